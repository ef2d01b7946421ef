import PyProof.Rows.All
import Wide.All
import OpenK.AllK
import Wide.FinOn
import PySem.Challenge.RW_bothroads_k34_texts_by_hand_and_refused
import HandS.HeadWalk
import KE.KStateDown
import KE.KNest
import KE.KNestM
import PyProof.ExcClass
import KE.KExcInit
import HandS.Base
import HandS.Call
import HandS.List
import HandS.Dict
import HandS.More
import HandS.Exc
import HandS.Words
import HandS.Defaults
import HandS.HeadHook1
import HandS.HeadHook2
import HandS.HeadHook3
import HandS.HeadHook4
import HandS.Head0
import HandS.Head1
import HandS.Head2
import HandS.ForMost
import HandS.ForExc
import HandS.TryMany
import HandS.CallSlots
import KE.KDictKeyed
import KE.KDictCopyH
import HandS.Lambda
import HandS.TupAny
import HandS.TupMul
import HandS.Conv
import HandS.IsInst
import HandS.Flow
import HandS.Deep
import HandS.WideBits
import PyProof.P3In
import HandS.Iter
import KE.GoesZip
import KE.GoesEnum
import KE.GoesEnumKw
import HandS.NoneIn
import HandS.DictComp
import KE.KExcIs
import HandS.ExcIs
import HandS.SortInts
import HandS.Style
import HandS.TupSets
import HandS.Wide
import HandS.EndBits
import HandS.EndTab
import HandS.Rev
import KE.DatumOrd
import KE.GoesCell
import KE.KEqDict
import KE.KDictZip
import KE.KItemsList
import HandS.MapObj
import HandS.SetBool
import KE.IntBitsLaws
import HandS.Strs
import HandS.SetFor
import HandS.Keys
import KE.SortData
import KE.DataMinKey
import HandS.SortKw
import PyProof.Transfer
import PyProof.DictMoreH
import KE.KDictWalk
import PyProof.SeqIndex
import HandS.TupLe
import HandS.ExcValue
import HandS.Text
import PyProof.StrBlockL
import HandS.Replace
import HandS.ReplaceLit
set_option Elab.async false
set_option linter.all false
set_option maxRecDepth 100000
set_option maxHeartbeats 2000000
set_option autoImplicit false
/-! The head by one run of the kernel: what is looked at behind the top, by names. -/
namespace Hf
open PySem PySem.Spec PyProof.Rows L2 He
/-! ### the addresses: what the module's names stand for, their codes, their classes' methods -/
def codesG (g : Addr → Option Obj) (a : Addr) : List Addr := match g a with
  | some ⟨_, _, .func fd, _⟩ => refV fd.code
  | _ => []
def deepG (g : Addr → Option Obj) (a : Addr) : List Addr := match g a with
  | some ⟨_, _, .func fd, _⟩ => refV fd.code
  | some ⟨_, _, .cls cd, _⟩ => cd.ns :: (match g cd.ns with
    | some ⟨_, _, .dict es _, _⟩ => es.toList.flatMap fun e => match e.val with
      | .ref b => b :: codesG g b
      | _ => []
    | _ => [])
  | _ => []
def asO (g : Addr → Option Obj) : List Addr := mainGlobals :: (match g mainGlobals with
  | some ⟨_, _, .dict es _, _⟩ => es.toList.flatMap fun e => match e.val with
    | .ref a => a :: deepG g a
    | _ => []
  | _ => [])
/-! ### what is told -/
structure Says (fa : List Fa) (fn : List DefD) (ts : List Tab) (tf : List Defn) (ex : List (PySem.W.Frag → Bool)) (w : World) (h : Heap) (K : PySem.W.Frag) : Prop where
  t : SaysT fa fn ts w K
  more : (ex.all fun b => b K) = true
  hd : ∀ p ∈ tf, PySem.W.codeHdIn K (cT K p).1 (cT K p).2 = true
  out : ∀ p ∈ tf, K.lookup (cT K p).2 = none
  empty : ∀ p ∈ tf, h.get? (cT K p).2 = some { cls := .none, data := .fields #[] }
def obsO (fa : List Fa) (fn : List DefD) (ts : List Tab) (tf : List Defn) (ex : List (PySem.W.Frag → Bool)) (g : Addr → Option Obj) : AlX := (obsT fa fn ts (frT g (asO g)), (ex.all fun b => b (frT g (asO g))) && tabsB g tf (frT g (asO g)))
theorem says_of {fa : List Fa} {fn : List DefD} {ts : List Tab} {tf : List Defn} {ex : List (PySem.W.Frag → Bool)} {w : World} {h : Heap} (e : obsO fa fn ts tf ex h.get? = valX fn ts w) : Says fa fn ts tf ex w h (frT h.get? (asO h.get?)) := by
  have e1 : obsT fa fn ts (frT h.get? (asO h.get?)) = valT fn ts w := congrArg (fun z : AlX => z.1) e
  have e2 : ((ex.all fun b => b (frT h.get? (asO h.get?))) && tabsB h.get? tf (frT h.get? (asO h.get?))) = true := congrArg (fun z : AlX => z.2) e
  obtain ⟨h1, h2⟩ := ba e2
  have key : ∀ p ∈ tf, PySem.W.codeHdIn (frT h.get? (asO h.get?)) (cT (frT h.get? (asO h.get?)) p).1 (cT (frT h.get? (asO h.get?)) p).2 = true ∧ ∃ o, h.get? (cT (frT h.get? (asO h.get?)) p).2 = some o ∧ emptyTab o = true := fun p hp => by
    obtain ⟨h3, h4⟩ := ba (List.all_eq_true.mp h2 p hp)
    refine ⟨h3, ?_⟩
    cases q : h.get? (cT (frT h.get? (asO h.get?)) p).2 with
    | none =>
      rw [q] at h4
      cases h4
    | some o =>
      rw [q] at h4
      exact ⟨o, rfl, h4⟩
  exact ⟨e1, h1, fun p hp => (key p hp).1, fun p hp => by
    obtain ⟨_, o, q, z⟩ := key p hp
    exact frT_none q z, fun p hp => by
    obtain ⟨_, o, q, z⟩ := key p hp
    rw [q, emptyTab_eq z]⟩
def hookO (fa : List Fa) (fn : List DefD) (ts : List Tab) (tf : List Defn) (ex : List (PySem.W.Frag → Bool)) : PySem.W.Hook where
  α := AlX
  obs := fun s => obsO fa fn ts tf ex s.heap.get?
  val := fun w => valX fn ts w
  says := fun w h => ∃ K : PySem.W.Frag, K.In h ∧ Says fa fn ts tf ex w h K
  of := fun _ _ e => ⟨_, frT_in, says_of e⟩
  keeps := fun _ _ _ ⟨K, hK, c⟩ k => ⟨K, PySem.W.Frag.In.keeps hK k, ⟨c.t, c.more, c.hd, c.out, fun p hp => k _ _ (c.empty p hp)⟩⟩
theorem obsO_eq {fa : List Fa} {fn : List DefD} {ts : List Tab} {tf : List Defn} {ex : List (PySem.W.Frag → Bool)} {g : Addr → Option Obj} {s : Shared} (h : ∀ a, g a = s.heap.get? a) : obsO fa fn ts tf ex g = (hookO fa fn ts tf ex).obs s := by
  have e : g = s.heap.get? := funext h
  rw [e] <;> rfl
/-! ### facts by their places -/
def dP (P : PySem.W.Frag → Prop) [∀ K, Decidable (P K)] : PySem.W.Frag → Bool := fun K => decide (P K)
section
variable {fa : List Fa} {fn : List DefD} {ts : List Tab} {tf : List Defn} {ex : List (PySem.W.Frag → Bool)} {w : World} {h : Heap} {K : PySem.W.Frag}
theorem Says.fact (c : Says fa fn ts tf ex w h K) (i : Nat) {f : Fa} (e : fa[i]? = some f) : f.ok K = true := c.t.d.fact i e
theorem Says.yes (c : Says fa fn ts tf ex w h K) (i : Nat) {b : PySem.W.Frag → Bool} (e : ex[i]? = some b) : b K = true := List.all_eq_true.mp c.more b (List.mem_of_getElem? e)
theorem Says.dec (c : Says fa fn ts tf ex w h K) (i : Nat) {P : PySem.W.Frag → Prop} [∀ K, Decidable (P K)] (e : ex[i]? = some (dP P)) : P K := of_decide_eq_true (c.yes i e)
/-- a def of the module -/
theorem Says.def1 (c : Says fa fn ts tf ex w h K) (i : Nat) {st : Stmt} {x : Str} (e : fn[i]? = some ⟨(x, none), x, x, defArgs st, defBody st, defScope st, [], []⟩) : ∃ fd, Fun K x x st (ga K x) fd ∧ fd.code = .ref (cT K (x, none)).1 := by
  obtain ⟨fd, ⟨oc, od, dV, kV, doc, pm, an, cdv, ct, osl, rfl, lk, cd, dv, _⟩, kp⟩ := c.t.d.def_ i e
  have dn : dV = .none := by
    rcases dv with ⟨_, z⟩ | ⟨z, _⟩
    · exact z
    · exact absurd rfl z
  subst dn
  obtain ⟨cc, ec⟩ := codeIn_ref cd
  refine ⟨_, ⟨⟨oc, od, kV, doc, pm, an, cdv, ct, osl, rfl, lk, cd⟩, kp⟩, ?_⟩
  show cdv = .ref (codeOf K (x, none))
  rw [codeOf_eq (c := cc) lk ec, ec]
/-! ### a method without defaults -/
def kwN (K : PySem.W.Frag) (p : Str × Option Str) : Bool := match K.lookup (fAd K p) with
  | some ⟨_, _, .func fd, _⟩ => (match fd.kwdefaults with
    | .none => true
    | _ => false)
  | _ => false
theorem Says.meth0 (c : Says fa fn ts tf ex w h K) (i : Nat) {p : Str × Option Str} {x q : Str} {a : Arguments} {b : List Stmt} {s : Scope} (e : fn[i]? = some ⟨p, x, q, a, b, s, [], []⟩) (k : kwN K p = true) :
    ∃ (oc : Value) (od : Option Addr) (doc pm : Value) (an : Option Addr) (cdv ct : Value) (osl : Array (Option Value)), K.lookup (fAd K p) = some ⟨oc, od, .func (PySem.W.fnOf x q a b s .none .none doc pm an cdv ct), osl⟩ ∧ PySem.W.codeIn K cdv q = true := by
  obtain ⟨fd, ⟨oc, od, dV, kV, doc, pm, an, cdv, ct, osl, rfl, lk, cd, dv, _⟩, kp⟩ := c.t.d.def_ i e
  have dn : dV = .none := by
    rcases dv with ⟨_, z⟩ | ⟨z, _⟩
    · exact z
    · exact absurd rfl z
  subst dn
  have lk2 : K.lookup (fAd K p) = some ⟨oc, od, .func (PySem.W.fnOf x q a b s .none kV doc pm an cdv ct), osl⟩ := lk
  have kn : kV = .none := by
    unfold kwN at k
    rw [lk2] at k
    cases kV with
    | none => rfl
    | _ => cases k
  subst kn
  exact ⟨oc, od, doc, pm, an, cdv, ct, osl, lk2, cd⟩
end
/-! ### a class of exceptions -/
def xcB (K : PySem.W.Frag) (C : Addr) (bm : List Value) (newId : String) : Bool := match K.lookup C with
  | some ⟨.type t, _, .cls cd, sl⟩ => decide (t = "type") && (match cd.mro, sl.toList with
    | .ref C' :: bm', [_, _, _, _, some (.builtin n), _] => decide (C' = C) && (decide (n = newId) && (!cd.hasDel && (cd.hasDict && decide (bm' = bm))))
    | _, _ => false)
  | _ => false
theorem xcB_ok {K : PySem.W.Frag} {C : Addr} {bm : List Value} {newId : String} (e : xcB K C bm newId = true) : ∃ nm q N bs sn sub ab col dd k0 k1 k2 k3 k5, K.lookup C = some (excClassObj nm q C N bs bm true sn sub ab col dd k0 k1 k2 k3 k5 newId) := by
  unfold xcB at e
  split at e
  · rename_i t dd cd sl ho
    obtain ⟨e1, e2⟩ := ba e
    split at e2
    · rename_i C' bm' k0 k1 k2 k3 n k5 hm hs
      obtain ⟨q1, e2⟩ := ba e2
      obtain ⟨q2, e2⟩ := ba e2
      obtain ⟨q3, e2⟩ := ba e2
      obtain ⟨q4, q5⟩ := ba e2
      obtain ⟨nm, bs, mro, ns, qn, hd, sn, sub, ab, col, del⟩ := cd
      have r1 := of_decide_eq_true e1
      have r2 := of_decide_eq_true q1
      have r3 := of_decide_eq_true q2
      have r5 := of_decide_eq_true q5
      have r3' : del = false := Bool.not_eq_true' del ▸ q3
      have r4 : hd = true := q4
      dsimp only at hm
      subst hm r1 r2 r3 r5 r3' r4
      have hsl : sl = #[k0, k1, k2, k3, some (.builtin n), k5] := by
        obtain ⟨l⟩ := sl
        simp only at hs
        rw [hs]
      subst hsl
      exact ⟨nm, qn, ns, bs, sn, sub, ab, col, dd, k0, k1, k2, k3, k5, ho⟩
    · cases e2
  · cases e
theorem Says.keep1 {fa : List Fa} {fn : List DefD} {ts : List Tab} {tf : List Defn} {ex : List (PySem.W.Frag → Bool)} {w : World} {h : Heap} {K : PySem.W.Frag} (c : Says fa fn ts tf ex w h K) (i : Nat) {st : Stmt} {x : Str} (e : fn[i]? = some ⟨(x, none), x, x, defArgs st, defBody st, defScope st, [], []⟩) : PySem.W.keepIn K (.ref (ga K x)) = true := by
  obtain ⟨fd, F, _⟩ := c.def1 i e
  exact F.kp
/-- a def or a method -/
theorem Says.defP {fa : List Fa} {fn : List DefD} {ts : List Tab} {tf : List Defn} {ex : List (PySem.W.Frag → Bool)} {w : World} {h : Heap} {K : PySem.W.Frag} (c : Says fa fn ts tf ex w h K) (i : Nat) {p : Str × Option Str} {st : Stmt} {x q : Str} (e : fn[i]? = some ⟨p, x, q, defArgs st, defBody st, defScope st, [], []⟩) : ∃ fd, Fun K x q st (fAd K p) fd ∧ fd.code = .ref (cT K p).1 := by
  obtain ⟨fd, ⟨oc, od, dV, kV, doc, pm, an, cdv, ct, osl, rfl, lk, cd, dv, _⟩, kp⟩ := c.t.d.def_ i e
  have dn : dV = .none := by
    rcases dv with ⟨_, z⟩ | ⟨z, _⟩
    · exact z
    · exact absurd rfl z
  subst dn
  obtain ⟨cc, ec⟩ := codeIn_ref cd
  refine ⟨_, ⟨⟨oc, od, kV, doc, pm, an, cdv, ct, osl, rfl, lk, cd⟩, kp⟩, ?_⟩
  show cdv = .ref (codeOf K p)
  rw [codeOf_eq (c := cc) lk ec, ec]
def pairBB : List (Str × Bool) → List DictEntry → Bool
  | [], [] => true
  | p :: r, e :: es => (match e.key, e.val with
    | .str x _, .bool b => decide (x = p.1) && decide (b = p.2)
    | _, _ => false) && pairBB r es
  | _, _ => false
theorem pairBB_ok : ∀ {kvs : List (Str × Bool)} {es : List DictEntry}, pairBB kvs es = true → Paired (fun (p : Str × Bool) (e : DictEntry) => (∃ t, e.key = .str p.1 t) ∧ e.val = .bool p.2) kvs es
  | [], [], _ => .nil
  | [], _ :: _, h => by cases h
  | _ :: _, [], h => by cases h
  | p :: r, e :: es, h => by
    obtain ⟨h1, h2⟩ := ba (show ((match e.key, e.val with
      | .str x _, .bool b => decide (x = p.1) && decide (b = p.2)
      | _, _ => false) && pairBB r es) = true from h)
    refine .cons ?_ (pairBB_ok h2)
    split at h1
    · rename_i x t b q1 q2
      obtain ⟨r1, r2⟩ := ba h1
      exact ⟨⟨t, by rw [q1, of_decide_eq_true r1]⟩, by rw [q2, of_decide_eq_true r2]⟩
    · cases h1
def dctBB (K : PySem.W.Frag) (a : Addr) (kvs : List (Str × Bool)) : Bool := match K.lookup a with
  | some ⟨_, _, .dict es _, _⟩ => pairBB kvs es.toList
  | _ => false
end Hf

set_option Elab.async false
set_option linter.all false
set_option maxRecDepth 100000
set_option maxHeartbeats 0
set_option autoImplicit false
namespace Hd
open PySem PySem.Spec PyProof.Rows L2
abbrev R : PySem.W.OpenRow := PySem.W.OpenLaw.row PySem.Challenge.rw_bothroads_k34_texts_by_hand_and_refused
abbrev tp (i : Nat) : Stmt := R.prog.main.body.getD i (.Pass ⟨0, 0, 0, 0⟩)
abbrev mth (i j : Nat) : Stmt := match tp i with
  | .ClassDef (body := b) .. => b.getD j (.Pass ⟨0, 0, 0, 0⟩)
  | _ => .Pass ⟨0, 0, 0, 0⟩
def fn : List He.DefD := ([⟨((PySem.Str.ofString "is_number"), none), (PySem.Str.ofString "is_number"), (PySem.Str.ofString "is_number"), defArgs (tp 4), defBody (tp 4), defScope (tp 4), [], []⟩, ⟨((PySem.Str.ofString "are_numbers_from"), none), (PySem.Str.ofString "are_numbers_from"), (PySem.Str.ofString "are_numbers_from"), defArgs (tp 5), defBody (tp 5), defScope (tp 5), [], []⟩, ⟨((PySem.Str.ofString "are_places"), none), (PySem.Str.ofString "are_places"), (PySem.Str.ofString "are_places"), defArgs (tp 6), defBody (tp 6), defScope (tp 6), [], []⟩, ⟨((PySem.Str.ofString "is_set_of_places"), none), (PySem.Str.ofString "is_set_of_places"), (PySem.Str.ofString "is_set_of_places"), defArgs (tp 7), defBody (tp 7), defScope (tp 7), [], []⟩, ⟨((PySem.Str.ofString "are_steps"), none), (PySem.Str.ofString "are_steps"), (PySem.Str.ofString "are_steps"), defArgs (tp 10), defBody (tp 10), defScope (tp 10), [], []⟩, ⟨((PySem.Str.ofString "is_machine"), none), (PySem.Str.ofString "is_machine"), (PySem.Str.ofString "is_machine"), defArgs (tp 9), defBody (tp 9), defScope (tp 9), [], []⟩, ⟨((PySem.Str.ofString "letters_in"), none), (PySem.Str.ofString "letters_in"), (PySem.Str.ofString "letters_in"), defArgs (tp 11), defBody (tp 11), defScope (tp 11), [], []⟩, ⟨((PySem.Str.ofString "is_event"), none), (PySem.Str.ofString "is_event"), (PySem.Str.ofString "is_event"), defArgs (tp 14), defBody (tp 14), defScope (tp 14), [], []⟩, ⟨((PySem.Str.ofString "is_run"), none), (PySem.Str.ofString "is_run"), (PySem.Str.ofString "is_run"), defArgs (tp 13), defBody (tp 13), defScope (tp 13), [], []⟩, ⟨((PySem.Str.ofString "are_rows"), none), (PySem.Str.ofString "are_rows"), (PySem.Str.ofString "are_rows"), defArgs (tp 17), defBody (tp 17), defScope (tp 17), [], []⟩, ⟨((PySem.Str.ofString "is_step"), none), (PySem.Str.ofString "is_step"), (PySem.Str.ofString "is_step"), defArgs (tp 19), defBody (tp 19), defScope (tp 19), [], []⟩, ⟨((PySem.Str.ofString "are_puts"), none), (PySem.Str.ofString "are_puts"), (PySem.Str.ofString "are_puts"), defArgs (tp 18), defBody (tp 18), defScope (tp 18), [], []⟩, ⟨((PySem.Str.ofString "are_takes"), none), (PySem.Str.ofString "are_takes"), (PySem.Str.ofString "are_takes"), defArgs (tp 20), defBody (tp 20), defScope (tp 20), [], []⟩, ⟨((PySem.Str.ofString "is_keeper"), none), (PySem.Str.ofString "is_keeper"), (PySem.Str.ofString "is_keeper"), defArgs (tp 16), defBody (tp 16), defScope (tp 16), [], []⟩, ⟨((PySem.Str.ofString "letters_of"), none), (PySem.Str.ofString "letters_of"), (PySem.Str.ofString "letters_of"), defArgs (tp 21), defBody (tp 21), defScope (tp 21), [], []⟩, ⟨((PySem.Str.ofString "marks_of"), none), (PySem.Str.ofString "marks_of"), (PySem.Str.ofString "marks_of"), defArgs (tp 22), defBody (tp 22), defScope (tp 22), [], []⟩, ⟨((PySem.Str.ofString "greatest_mark"), none), (PySem.Str.ofString "greatest_mark"), (PySem.Str.ofString "greatest_mark"), defArgs (tp 24), defBody (tp 24), defScope (tp 24), [], []⟩, ⟨((PySem.Str.ofString "is_pair"), none), (PySem.Str.ofString "is_pair"), (PySem.Str.ofString "is_pair"), defArgs (tp 23), defBody (tp 23), defScope (tp 23), [], []⟩, ⟨((PySem.Str.ofString "lines_of"), none), (PySem.Str.ofString "lines_of"), (PySem.Str.ofString "lines_of"), defArgs (tp 27), defBody (tp 27), defScope (tp 27), [], []⟩, ⟨((PySem.Str.ofString "is_figures"), none), (PySem.Str.ofString "is_figures"), (PySem.Str.ofString "is_figures"), defArgs (tp 28), defBody (tp 28), defScope (tp 28), [], []⟩, ⟨((PySem.Str.ofString "Reader"), some (PySem.Str.ofString "__init__")), (PySem.Str.ofString "__init__"), (PySem.Str.ofString "Reader.__init__"), defArgs (mth 29 0), defBody (mth 29 0), defScope (mth 29 0), [], []⟩, ⟨((PySem.Str.ofString "Reader"), some (PySem.Str.ofString "is_done")), (PySem.Str.ofString "is_done"), (PySem.Str.ofString "Reader.is_done"), defArgs (mth 29 1), defBody (mth 29 1), defScope (mth 29 1), [], []⟩, ⟨((PySem.Str.ofString "Reader"), some (PySem.Str.ofString "comes")), (PySem.Str.ofString "comes"), (PySem.Str.ofString "Reader.comes"), defArgs (mth 29 2), defBody (mth 29 2), defScope (mth 29 2), [], []⟩, ⟨((PySem.Str.ofString "Reader"), some (PySem.Str.ofString "check")), (PySem.Str.ofString "check"), (PySem.Str.ofString "Reader.check"), defArgs (mth 29 6), defBody (mth 29 6), defScope (mth 29 6), [], []⟩, ⟨((PySem.Str.ofString "Reader"), some (PySem.Str.ofString "behind")), (PySem.Str.ofString "behind"), (PySem.Str.ofString "Reader.behind"), defArgs (mth 29 3), defBody (mth 29 3), defScope (mth 29 3), [], []⟩, ⟨((PySem.Str.ofString "Reader"), some (PySem.Str.ofString "counted")), (PySem.Str.ofString "counted"), (PySem.Str.ofString "Reader.counted"), defArgs (mth 29 4), defBody (mth 29 4), defScope (mth 29 4), [], []⟩, ⟨((PySem.Str.ofString "Reader"), some (PySem.Str.ofString "counted_just")), (PySem.Str.ofString "counted_just"), (PySem.Str.ofString "Reader.counted_just"), defArgs (mth 29 5), defBody (mth 29 5), defScope (mth 29 5), [], []⟩, ⟨((PySem.Str.ofString "Reader"), some (PySem.Str.ofString "end")), (PySem.Str.ofString "end"), (PySem.Str.ofString "Reader.end"), defArgs (mth 29 7), defBody (mth 29 7), defScope (mth 29 7), [], []⟩, ⟨((PySem.Str.ofString "line_with"), none), (PySem.Str.ofString "line_with"), (PySem.Str.ofString "line_with"), defArgs (tp 30), defBody (tp 30), defScope (tp 30), [], []⟩, ⟨((PySem.Str.ofString "machine_text"), none), (PySem.Str.ofString "machine_text"), (PySem.Str.ofString "machine_text"), defArgs (tp 31), defBody (tp 31), defScope (tp 31), [], []⟩] : List He.DefD) ++ ([⟨((PySem.Str.ofString "run_text"), none), (PySem.Str.ofString "run_text"), (PySem.Str.ofString "run_text"), defArgs (tp 32), defBody (tp 32), defScope (tp 32), [], []⟩, ⟨((PySem.Str.ofString "keeper_text"), none), (PySem.Str.ofString "keeper_text"), (PySem.Str.ofString "keeper_text"), defArgs (tp 33), defBody (tp 33), defScope (tp 33), [], []⟩, ⟨((PySem.Str.ofString "pair_text"), none), (PySem.Str.ofString "pair_text"), (PySem.Str.ofString "pair_text"), defArgs (tp 34), defBody (tp 34), defScope (tp 34), [], []⟩, ⟨((PySem.Str.ofString "machine_read"), none), (PySem.Str.ofString "machine_read"), (PySem.Str.ofString "machine_read"), defArgs (tp 35), defBody (tp 35), defScope (tp 35), [], []⟩, ⟨((PySem.Str.ofString "event_read"), none), (PySem.Str.ofString "event_read"), (PySem.Str.ofString "event_read"), defArgs (tp 36), defBody (tp 36), defScope (tp 36), [], []⟩, ⟨((PySem.Str.ofString "run_read"), none), (PySem.Str.ofString "run_read"), (PySem.Str.ofString "run_read"), defArgs (tp 37), defBody (tp 37), defScope (tp 37), [], []⟩, ⟨((PySem.Str.ofString "keeper_lines_read"), none), (PySem.Str.ofString "keeper_lines_read"), (PySem.Str.ofString "keeper_lines_read"), defArgs (tp 38), defBody (tp 38), defScope (tp 38), [], []⟩, ⟨((PySem.Str.ofString "keeper_read"), none), (PySem.Str.ofString "keeper_read"), (PySem.Str.ofString "keeper_read"), defArgs (tp 39), defBody (tp 39), defScope (tp 39), [], []⟩, ⟨((PySem.Str.ofString "pair_read"), none), (PySem.Str.ofString "pair_read"), (PySem.Str.ofString "pair_read"), defArgs (tp 40), defBody (tp 40), defScope (tp 40), [], []⟩, ⟨((PySem.Str.ofString "_law_box"), none), (PySem.Str.ofString "_law_box"), (PySem.Str.ofString "_law_box"), defArgs (tp 42), defBody (tp 42), defScope (tp 42), [], []⟩, ⟨((PySem.Str.ofString "_law_take"), none), (PySem.Str.ofString "_law_take"), (PySem.Str.ofString "_law_take"), defArgs (tp 43), defBody (tp 43), defScope (tp 43), [], []⟩, ⟨((PySem.Str.ofString "_law_cells"), none), (PySem.Str.ofString "_law_cells"), (PySem.Str.ofString "_law_cells"), defArgs (tp 44), defBody (tp 44), defScope (tp 44), [], []⟩, ⟨((PySem.Str.ofString "_law_lists"), none), (PySem.Str.ofString "_law_lists"), (PySem.Str.ofString "_law_lists"), defArgs (tp 45), defBody (tp 45), defScope (tp 45), [], []⟩, ⟨((PySem.Str.ofString "_law_same"), none), (PySem.Str.ofString "_law_same"), (PySem.Str.ofString "_law_same"), defArgs (tp 46), defBody (tp 46), defScope (tp 46), [], []⟩, ⟨((PySem.Str.ofString "_law_even"), none), (PySem.Str.ofString "_law_even"), (PySem.Str.ofString "_law_even"), defArgs (tp 47), defBody (tp 47), defScope (tp 47), [], []⟩, ⟨((PySem.Str.ofString "_law_flip"), none), (PySem.Str.ofString "_law_flip"), (PySem.Str.ofString "_law_flip"), defArgs (tp 48), defBody (tp 48), defScope (tp 48), [], []⟩, ⟨((PySem.Str.ofString "_law_lead"), none), (PySem.Str.ofString "_law_lead"), (PySem.Str.ofString "_law_lead"), defArgs (tp 49), defBody (tp 49), defScope (tp 49), [], []⟩, ⟨((PySem.Str.ofString "_law_hear"), none), (PySem.Str.ofString "_law_hear"), (PySem.Str.ofString "_law_hear"), defArgs (tp 50), defBody (tp 50), defScope (tp 50), [], []⟩, ⟨((PySem.Str.ofString "_law_heard"), none), (PySem.Str.ofString "_law_heard"), (PySem.Str.ofString "_law_heard"), defArgs (tp 51), defBody (tp 51), defScope (tp 51), [], []⟩, ⟨((PySem.Str.ofString "_law_flip_text"), none), (PySem.Str.ofString "_law_flip_text"), (PySem.Str.ofString "_law_flip_text"), defArgs (tp 52), defBody (tp 52), defScope (tp 52), [], []⟩, ⟨((PySem.Str.ofString "_law_two_text"), none), (PySem.Str.ofString "_law_two_text"), (PySem.Str.ofString "_law_two_text"), defArgs (tp 53), defBody (tp 53), defScope (tp 53), [], []⟩, ⟨((PySem.Str.ofString "_law_always_right"), none), (PySem.Str.ofString "_law_always_right"), (PySem.Str.ofString "_law_always_right"), defArgs (tp 54), defBody (tp 54), defScope (tp 54), [], []⟩, ⟨((PySem.Str.ofString "_law_told_right"), none), (PySem.Str.ofString "_law_told_right"), (PySem.Str.ofString "_law_told_right"), defArgs (tp 55), defBody (tp 55), defScope (tp 55), [], []⟩, ⟨((PySem.Str.ofString "_law_lines_right"), none), (PySem.Str.ofString "_law_lines_right"), (PySem.Str.ofString "_law_lines_right"), defArgs (tp 56), defBody (tp 56), defScope (tp 56), [], []⟩, ⟨((PySem.Str.ofString "_law_unfit_right"), none), (PySem.Str.ofString "_law_unfit_right"), (PySem.Str.ofString "_law_unfit_right"), defArgs (tp 57), defBody (tp 57), defScope (tp 57), [], []⟩, ⟨((PySem.Str.ofString "law"), none), (PySem.Str.ofString "law"), (PySem.Str.ofString "law"), defArgs (tp 58), defBody (tp 58), defScope (tp 58), [], []⟩, ⟨((PySem.Str.ofString "BadLine"), some (PySem.Str.ofString "__init__")), (PySem.Str.ofString "__init__"), (PySem.Str.ofString "BadLine.__init__"), defArgs (mth 1 0), defBody (mth 1 0), defScope (mth 1 0), [], []⟩] : List He.DefD)
def fa : List He.Fa := ([.glo (PySem.Str.ofString "is_number"), .glo (PySem.Str.ofString "are_numbers_from"), .glo (PySem.Str.ofString "are_places"), .glo (PySem.Str.ofString "is_set_of_places"), .glo (PySem.Str.ofString "are_steps"), .glo (PySem.Str.ofString "is_machine"), .glo (PySem.Str.ofString "letters_in"), .glo (PySem.Str.ofString "is_event"), .glo (PySem.Str.ofString "is_run"), .glo (PySem.Str.ofString "are_rows"), .glo (PySem.Str.ofString "is_step"), .glo (PySem.Str.ofString "are_puts"), .glo (PySem.Str.ofString "are_takes"), .glo (PySem.Str.ofString "is_keeper"), .glo (PySem.Str.ofString "letters_of"), .glo (PySem.Str.ofString "marks_of"), .glo (PySem.Str.ofString "greatest_mark"), .glo (PySem.Str.ofString "is_pair"), .glo (PySem.Str.ofString "lines_of"), .glo (PySem.Str.ofString "is_figures"), .meth (PySem.Str.ofString "Reader") (PySem.Str.ofString "__init__"), .meth (PySem.Str.ofString "Reader") (PySem.Str.ofString "is_done"), .meth (PySem.Str.ofString "Reader") (PySem.Str.ofString "comes"), .meth (PySem.Str.ofString "Reader") (PySem.Str.ofString "check"), .meth (PySem.Str.ofString "Reader") (PySem.Str.ofString "behind"), .meth (PySem.Str.ofString "Reader") (PySem.Str.ofString "counted"), .meth (PySem.Str.ofString "Reader") (PySem.Str.ofString "counted_just"), .meth (PySem.Str.ofString "Reader") (PySem.Str.ofString "end"), .glo (PySem.Str.ofString "line_with"), .glo (PySem.Str.ofString "machine_text")] : List He.Fa) ++ ([.glo (PySem.Str.ofString "run_text"), .glo (PySem.Str.ofString "keeper_text"), .glo (PySem.Str.ofString "pair_text"), .glo (PySem.Str.ofString "machine_read"), .glo (PySem.Str.ofString "event_read"), .glo (PySem.Str.ofString "run_read"), .glo (PySem.Str.ofString "keeper_lines_read"), .glo (PySem.Str.ofString "keeper_read"), .glo (PySem.Str.ofString "pair_read"), .glo (PySem.Str.ofString "_law_box"), .glo (PySem.Str.ofString "_law_take"), .glo (PySem.Str.ofString "_law_cells"), .glo (PySem.Str.ofString "_law_lists"), .glo (PySem.Str.ofString "_law_same"), .glo (PySem.Str.ofString "_law_even"), .glo (PySem.Str.ofString "_law_flip"), .glo (PySem.Str.ofString "_law_lead"), .glo (PySem.Str.ofString "_law_hear"), .glo (PySem.Str.ofString "_law_heard"), .glo (PySem.Str.ofString "_law_flip_text"), .glo (PySem.Str.ofString "_law_two_text"), .glo (PySem.Str.ofString "_law_always_right"), .glo (PySem.Str.ofString "_law_told_right"), .glo (PySem.Str.ofString "_law_lines_right"), .glo (PySem.Str.ofString "_law_unfit_right"), .glo (PySem.Str.ofString "law"), .glo (PySem.Str.ofString "Reader"), .cls (PySem.Str.ofString "Reader"), .mkr (PySem.Str.ofString "Reader"), .noat (PySem.Str.ofString "Reader") (PySem.Str.ofString "lines")] : List He.Fa) ++ ([.noat (PySem.Str.ofString "Reader") (PySem.Str.ofString "place"), .free (PySem.Str.ofString "ValueError"), .free (PySem.Str.ofString "abs"), .free (PySem.Str.ofString "all"), .free (PySem.Str.ofString "bool"), .free (PySem.Str.ofString "enumerate"), .free (PySem.Str.ofString "int"), .free (PySem.Str.ofString "isinstance"), .free (PySem.Str.ofString "len"), .free (PySem.Str.ofString "list"), .free (PySem.Str.ofString "max"), .free (PySem.Str.ofString "range"), .free (PySem.Str.ofString "str"), .free (PySem.Str.ofString "tuple"), .free (PySem.Str.ofString "zip"), .glo (PySem.Str.ofString "BadLine"), .keep (PySem.Str.ofString "BadLine"), .glo (PySem.Str.ofString "Unfit"), .keep (PySem.Str.ofString "Unfit"), .glo (PySem.Str.ofString "ANSWERS")] : List He.Fa)
def ts : List He.Tab := ([(fun K => He.ga K (PySem.Str.ofString "ANSWERS"), [(PySem.Str.ofString "yes"), (PySem.Str.ofString "no")])] : List He.Tab)
def tf : List He.Defn := ([] : List He.Defn)
def ex : List (PySem.W.Frag → Bool) := ([(Hf.dP (fun K => PySem.W.subIn K (.ref (He.ga K (PySem.Str.ofString "BadLine"))) (.type "BaseException") = some true)), (Hf.dP (fun K => PySem.W.typeIn K (.ref (He.ga K (PySem.Str.ofString "BadLine"))) = some (.type "type"))), (fun K => Hf.xcB K (He.ga K (PySem.Str.ofString "BadLine")) [.type "ValueError", .type "Exception", .type "BaseException", .type "object"] "ValueError.__new__"), (fun K => PySem.W.excOver K (He.ga K (PySem.Str.ofString "BadLine")) [.type "ValueError", .type "Exception", .type "BaseException", .type "object"]), (Hf.dP (fun K => PySem.W.findIn K (.ref (He.ga K (PySem.Str.ofString "BadLine"))) (PySem.Str.ofString "__setattr__") = some (some (.builtin "object.__setattr__")))), (Hf.dP (fun K => PySem.W.findIn K (.ref (He.ga K (PySem.Str.ofString "BadLine"))) (PySem.Str.ofString "line") = some none)), (Hf.dP (fun K => PySem.W.findIn K (.ref (He.ga K (PySem.Str.ofString "BadLine"))) (PySem.Str.ofString "__init__") = some (some (.ref (He.ma K (He.ga K (PySem.Str.ofString "BadLine")) (PySem.Str.ofString "__init__")))))), (Hf.dP (fun K => PySem.W.typeIn K (.ref (He.ma K (He.ga K (PySem.Str.ofString "BadLine")) (PySem.Str.ofString "__init__"))) = some (.type "function"))), (Hf.dP (fun K => PySem.W.findIn K (.ref (He.ga K (PySem.Str.ofString "BadLine"))) (PySem.Str.ofString "__getattribute__") = some (some (.builtin "BaseException.__getattribute__")))), (Hf.dP (fun K => PySem.W.findIn K (.ref (He.ga K (PySem.Str.ofString "BadLine"))) (PySem.Str.ofString "__getattr__") = some none)), (fun K => PySem.W.hasDictIn K (He.ga K (PySem.Str.ofString "BadLine"))), (fun K => Hf.kwN K ((PySem.Str.ofString "BadLine"), some (PySem.Str.ofString "__init__"))), (Hf.dP (fun K => PySem.W.subIn K (.ref (He.ga K (PySem.Str.ofString "Unfit"))) (.type "BaseException") = some true)), (Hf.dP (fun K => PySem.W.typeIn K (.ref (He.ga K (PySem.Str.ofString "Unfit"))) = some (.type "type"))), (fun K => PySem.W.excIn K (He.ga K (PySem.Str.ofString "Unfit")) [.type "ValueError", .type "Exception", .type "BaseException", .type "object"] "ValueError.__new__"), (fun K => Hf.dctBB K (He.ga K (PySem.Str.ofString "ANSWERS")) [((PySem.Str.ofString "yes"), true), ((PySem.Str.ofString "no"), false)]), (Hf.dP (fun K => PySem.W.specialIn K (.builtin "object.__class__") (PySem.Str.ofString "__get__") = some (some (.builtin "getset_descriptor.__get__")))), (Hf.dP (fun K => PySem.W.takesIn K (.builtin "object.__class__") = some true)), (Hf.dP (fun K => PySem.W.findIn K (.ref (He.ga K (PySem.Str.ofString "BadLine"))) (PySem.Str.ofString "__class__") = some (some (.builtin "object.__class__")))), (Hf.dP (fun K => PySem.W.mroIn K (He.ga K (PySem.Str.ofString "BadLine")) (.type "object") = some true)), (Hf.dP (fun K => PySem.W.findIn K (.ref (He.ga K (PySem.Str.ofString "Unfit"))) (PySem.Str.ofString "__getattribute__") = some (some (.builtin "BaseException.__getattribute__")))), (Hf.dP (fun K => PySem.W.findIn K (.ref (He.ga K (PySem.Str.ofString "Unfit"))) (PySem.Str.ofString "__getattr__") = some none)), (fun K => PySem.W.hasDictIn K (He.ga K (PySem.Str.ofString "Unfit"))), (Hf.dP (fun K => PySem.W.findIn K (.ref (He.ga K (PySem.Str.ofString "Unfit"))) (PySem.Str.ofString "__class__") = some (some (.builtin "object.__class__")))), (Hf.dP (fun K => PySem.W.mroIn K (He.ga K (PySem.Str.ofString "Unfit")) (.type "object") = some true)), (Hf.dP (fun K => PySem.W.kitOne K (.ref (He.ga K (PySem.Str.ofString "BadLine"))) (.type "ValueError") = some true)), (Hf.dP (fun K => PySem.W.kitOne K (.ref (He.ga K (PySem.Str.ofString "Unfit"))) (.type "ValueError") = some true)), (Hf.dP (fun K => PySem.W.subIn K (.ref (He.ga K (PySem.Str.ofString "BadLine"))) (.ref (He.ga K (PySem.Str.ofString "BadLine"))) = some true)), (Hf.dP (fun K => PySem.W.subIn K (.ref (He.ga K (PySem.Str.ofString "BadLine"))) (.ref (He.ga K (PySem.Str.ofString "Unfit"))) = some false)), (Hf.dP (fun K => PySem.W.subIn K (.ref (He.ga K (PySem.Str.ofString "Unfit"))) (.ref (He.ga K (PySem.Str.ofString "BadLine"))) = some false))] : List (PySem.W.Frag → Bool)) ++ ([(Hf.dP (fun K => PySem.W.subIn K (.ref (He.ga K (PySem.Str.ofString "Unfit"))) (.ref (He.ga K (PySem.Str.ofString "Unfit"))) = some true))] : List (PySem.W.Frag → Bool))
def names : List PySem.Str := ([(PySem.Str.ofString "__name__"), (PySem.Str.ofString "BadLine"), (PySem.Str.ofString "Unfit"), (PySem.Str.ofString "is_number"), (PySem.Str.ofString "are_numbers_from"), (PySem.Str.ofString "are_places"), (PySem.Str.ofString "is_set_of_places"), (PySem.Str.ofString "is_machine"), (PySem.Str.ofString "are_steps"), (PySem.Str.ofString "letters_in"), (PySem.Str.ofString "is_run"), (PySem.Str.ofString "is_event"), (PySem.Str.ofString "is_keeper"), (PySem.Str.ofString "are_rows"), (PySem.Str.ofString "are_puts"), (PySem.Str.ofString "is_step"), (PySem.Str.ofString "are_takes"), (PySem.Str.ofString "letters_of"), (PySem.Str.ofString "marks_of"), (PySem.Str.ofString "is_pair"), (PySem.Str.ofString "greatest_mark"), (PySem.Str.ofString "ANSWERS"), (PySem.Str.ofString "lines_of"), (PySem.Str.ofString "is_figures"), (PySem.Str.ofString "Reader"), (PySem.Str.ofString "line_with"), (PySem.Str.ofString "machine_text"), (PySem.Str.ofString "run_text"), (PySem.Str.ofString "keeper_text"), (PySem.Str.ofString "pair_text")] : List PySem.Str) ++ ([(PySem.Str.ofString "machine_read"), (PySem.Str.ofString "event_read"), (PySem.Str.ofString "run_read"), (PySem.Str.ofString "keeper_lines_read"), (PySem.Str.ofString "keeper_read"), (PySem.Str.ofString "pair_read"), (PySem.Str.ofString "_law_box"), (PySem.Str.ofString "_law_take"), (PySem.Str.ofString "_law_cells"), (PySem.Str.ofString "_law_lists"), (PySem.Str.ofString "_law_same"), (PySem.Str.ofString "_law_even"), (PySem.Str.ofString "_law_flip"), (PySem.Str.ofString "_law_lead"), (PySem.Str.ofString "_law_hear"), (PySem.Str.ofString "_law_heard"), (PySem.Str.ofString "_law_flip_text"), (PySem.Str.ofString "_law_two_text"), (PySem.Str.ofString "_law_always_right"), (PySem.Str.ofString "_law_told_right"), (PySem.Str.ofString "_law_lines_right"), (PySem.Str.ofString "_law_unfit_right")] : List PySem.Str)
abbrev hk : PySem.W.Hook := Hf.hookO fa fn ts tf ex
def ob (s : PySem.W.SharedT) : He.AlX := Hf.obsO fa fn ts tf ex (HandSHeadRun.getT s)
theorem ob_eq (s : PySem.W.SharedT) : ob s = hk.obs s.abs := Hf.obsO_eq (HandSHeadRun.getT_eq s)
theorem run0_0 (w : World) : HandSHeadRun.RunEq R (PySem.W.view R.prog [58]) (Hf.hookO fa fn ts tf ex) (fun s => Hf.obsO fa fn ts tf ex (HandSHeadRun.getT s)) 30000 names (w.withFollow "special-get-raises" false) := by
  intro os
  kernel_rfl
theorem run0_1 (w : World) : HandSHeadRun.RunEq R (PySem.W.view R.prog [58]) (Hf.hookO fa fn ts tf ex) (fun s => Hf.obsO fa fn ts tf ex (HandSHeadRun.getT s)) 30000 names (w.withFollow "special-get-raises" true) := by
  intro os
  kernel_rfl
theorem run0 (w : World) : HandSHeadRun.RunEq R (PySem.W.view R.prog [58]) (Hf.hookO fa fn ts tf ex) (fun s => Hf.obsO fa fn ts tf ex (HandSHeadRun.getT s)) 30000 names w := PySem.W.byRow2 "special-get-raises" (P := fun w => HandSHeadRun.RunEq R (PySem.W.view R.prog [58]) (Hf.hookO fa fn ts tf ex) (fun s => Hf.obsO fa fn ts tf ex (HandSHeadRun.getT s)) 30000 names w) run0_0 run0_1 w
theorem run (w : World) : HandSHeadRun.RunEq R (PySem.W.view R.prog [58]) hk ob 30000 names w := (run0 w)
abbrev dl : DefRec := HandSHeadRun.topDef R.prog 58
theorem dl_name : dl.name = PySem.Str.ofString "law" := by kernel_rfl
theorem dl_none : dl.params.defaults = [] := by kernel_rfl
open PySem PySem.W PyProof.Rows in
set_option maxRecDepth 100000 in
set_option maxHeartbeats 0 in
theorem head (call : PySem.W.WalkO (PySem.W.view R.prog [58]) names (PySem.W.XL (PySem.W.view R.prog [58]) []) hk.says R.toRowW dl [] fun f vs => PySem.call f vs) : PySem.Challenge.rw_bothroads_k34_texts_by_hand_and_refused.Holds := by
  w_on; o_law
  refine HandSHeadRun.head_any (r := OpenLaw.row PySem.Challenge.rw_bothroads_k34_texts_by_hand_and_refused) (q := view R.prog [58]) (H := hk) (ob := ob) (M := 30000) (loose := names) (d := dl) (kwd := []) ob_eq
    (by kernel_rfl) (fun s => by kernel_rfl) run (by kernel_rfl) (by kernel_rfl) (by kernel_rfl) (by rfl) (by first | assumption | decide +kernel) (by decide +kernel) ⟨rfl, rfl, rfl, rfl, rfl, by decide +kernel⟩ ?hw call
  case hw => w_witness2
end Hd

set_option Elab.async false
set_option linter.all false
set_option maxRecDepth 100000
set_option maxHeartbeats 2000000
set_option autoImplicit false
noncomputable section
namespace Rh
open PySem PySem.Spec PyProof.Rows L2
/-! ### tuples that keep their own object (no dict hangs on it) -/
abbrev NewT (H : Hp) (vs : List V) (Q : VK) : Prop := ∀ (p : Addr) (o : Obj), H p = none → o.dict = none → Q (.ref p) (upd H p (.frz o (.tup vs)))
section
variable {X : Cx} {pins : List (Addr × Obj)} {σ : L2.St} {H : Hp} {s : Shared} {vs : List V} {its : List Value} {tk : Nat} {Q : VK}
theorem ft_new (J : L2.Inv X pins σ H s) (r : Vals vs its) (hz : vs.length ≤ sizeLine) (q : NewT H vs Q) :
    ∃ x H', L2.Inv X pins σ H' { s with heap := s.heap.push { cls := .type "tuple", data := .seq its.toArray }, toks := tk } ∧ RelV x (.ref s.heap.objs.size) ∧ Q x H' :=
  ⟨.ref s.heap.objs.size, _, J.laid (o := .frz { cls := .type "tuple", data := .seq its.toArray } (.tup vs)) (fun b u e => Heap.get?_push_of_some _ e) (Nat.le_refl _) ⟨Heap.get?_push_size _ rfl, hz, its, r, ⟨_, Heap.get?_push_size _ rfl, rfl, _, rfl⟩⟩, rfl, q _ _ (J.hok.fresh (Nat.le_refl _)) rfl⟩
def tTupF (t : TA) : TE := fun σ H Q => t σ H fun xs H1 => xs.length ≤ sizeLine ∧ NewT H1 xs Q
theorem pe_tupF {es : List Expr} {t : TA} {x1} {pos : Pos} (ha : PA X es t) : PE X (.Tuple es x1 pos) (tTupF t) :=
  ⟨fun pins s σ H Q J w => wpAny_Tuple_spliced (thn (ha.run pos pins s σ H _ J w) fun us s1 ⟨xs, H1, J1, r, z, q⟩ => ⟨by rw [← r.length]; exact z, ft_new (tk := s1.toks) J1 r z q⟩)⟩
def rCatF (K : PySem.W.Frag) : R2 := fun x y H Q => ∃ a b xs ys, x = .ref a ∧ y = .ref b ∧ SqT K H a xs ∧ SqT K H b ys ∧ xs.length + ys.length ≤ sizeLine ∧
  (xs = [] → Q (.ref b) H) ∧ (xs ≠ [] → ys = [] → Q (.ref a) H) ∧ (xs ≠ [] → ys ≠ [] → NewT H (xs ++ ys) Q)
theorem op_catF : OpR X (binaryOp .Add) (rCatF X.K) := by
  intro pins s σ H x y v u Q J rx ry w
  obtain ⟨a, b, xs, ys, rfl, rfl, ta, tb, z, k0, k1, k2⟩ := w
  cases rx
  cases ry
  obtain ⟨its1, r1, p1, _⟩ := J.tuple ta
  obtain ⟨its2, r2, p2, _⟩ := J.tuple tb
  by_cases hx : xs = []
  · subst hx
    cases r1
    exact cat_tup0 p1 p2 ⟨.ref b, H, J, rfl, k0 rfl⟩
  · exact HT.cat_tup p1 p2 (fun e => hx (r1.nil_iff.mp e)) (fun e => ⟨.ref a, H, J, rfl, k1 hx (r2.nil_iff.mp e)⟩) (fun e => ft_new (tk := s.toks) J (r1.append r2) (by rw [List.length_append]; exact z) (k2 hx fun e' => e (r2.nil_iff.mpr e'))) (by rw [← r1.length, ← r2.length]; exact z)
theorem call_tupF : CallR X (.type "tuple") (fun xs H Q => ∃ p ys, xs = [.ref p] ∧ ((SqL X.K H p ys ∧ NewT H ys Q) ∨ (SqT X.K H p ys ∧ Q (.ref p) H))) := by
  intro pins s σ H xs us Q J r w
  obtain ⟨p, ys, rfl, w⟩ := w
  obtain ⟨u, rfl, ru⟩ := vals1 r
  cases ru
  rcases w with ⟨t, q⟩ | ⟨t, q⟩
  · obtain ⟨its, r2, pl, z⟩ := J.list t
    have e := r2.length
    exact call_tuple_list pl.isList (fun h' k => ft_new (s := { s with heap := h' }) (tk := s.toks) (J.kept (t' := s.toks) k) r2 z q) (by simp only [List.size_toArray] <;> omega)
  · obtain ⟨its, r2, pl, z⟩ := J.tuple t
    exact call_tuple_same pl ⟨.ref p, H, J, rfl, q⟩
def rSlF (K : PySem.W.Frag) : V → Option Int → Option Int → Hp → VK → Prop := fun x lo hi H Q => ∃ a xs, x = .ref a ∧ SqT K H a xs ∧
  (HT.sIx xs.length 0 lo = 0 ∧ HT.sIx xs.length xs.length hi = xs.length → Q (.ref a) H) ∧ (¬ (HT.sIx xs.length 0 lo = 0 ∧ HT.sIx xs.length xs.length hi = xs.length) → NewT H (cutV xs lo hi) Q)
theorem sl_tupF : SlR X (rSlF X.K) := by
  intro pins s σ H x v vl vu lo hi sl Q J rx hs pl pu w
  obtain ⟨a, xs, rfl, t, k1, k2⟩ := w
  by_cases hw : HT.sIx xs.length 0 lo = 0 ∧ HT.sIx xs.length xs.length hi = xs.length
  · exact sl_tupA pins s σ H _ v vl vu lo hi sl Q J rx hs pl pu ⟨a, xs, rfl, t, k1, fun e => absurd hw e⟩
  · cases rx
    obtain ⟨its, r, ht, z⟩ := J.tuple t
    have e : its.toArray.size = xs.length := by rw [List.size_toArray]; exact r.length.symm
    refine ⟨"tuple", _, PyProof.Rows.slot_tuple_getitem.lookup, ht.typeIs, HT.getItem_tuple_cut ht hs pl pu (by rw [e]; exact hw) ?_ (by rw [e]; exact z)⟩
    rw [e]
    exact ft_new (tk := s.toks) J ((r.drop (HT.sIx xs.length 0 lo)).take (HT.sIx xs.length xs.length hi - HT.sIx xs.length 0 lo)) (Nat.le_trans (cutV_length xs lo hi) z) (k2 hw)
def rRepF (K : PySem.W.Frag) : R2 := fun x y H Q => ∃ l k xs, x = .ref l ∧ y = .int k ∧ SqT K H l xs ∧ xs ≠ [] ∧ 2 ≤ k ∧ k ≤ 1000 ∧ xs.length ≤ 1000 ∧ NewT H (List.replicate k.toNat xs).flatten Q
theorem op_repF : OpR X (binaryOp .Mult) (rRepF X.K) := by
  intro pins s σ H x y v u Q J rx ry w
  obtain ⟨l, k, xs, rfl, rfl, t1, ne, k1, k2, z, q⟩ := w
  cases rx
  obtain ⟨t, rfl⟩ := ry
  obtain ⟨its, r, ⟨⟨cls, dd, data, sl⟩, ho, e1, n, e2⟩, _⟩ := J.tuple t1
  simp only at e1 e2
  subst e1 e2
  have hl : its.length = xs.length := r.length.symm
  have hi : its.toArray.isEmpty = false := by
    cases its with
    | nil => exact absurd (List.eq_nil_of_length_eq_zero hl.symm) ne
    | cons a b => rfl
  have hs : its.toArray.size = xs.length := by rw [List.size_toArray, hl]
  have hm : ((its.toArray.size : Nat) : Int) * k ≤ 1000000 := by
    rw [hs]
    have : ((xs.length : Nat) : Int) * k ≤ 1000 * k := Int.mul_le_mul_of_nonneg_right (by omega) (by omega)
    omega
  have f1 : k.toNat * xs.length ≤ 1000 * 1000 := Nat.mul_le_mul (by omega) z
  have fl : (List.replicate k.toNat its).flatten.length ≤ sizeLine := by
    rw [PyProof.Rows.lm_len_rep_flat, hl, sizeLine_eq]; omega
  have c0 : (decide (k < -(2 ^ 63)) || decide (k ≥ 2 ^ 63)) = false := by rw [decide_eq_false (by omega), decide_eq_false (by omega)]; rfl
  have c1 : (its.toArray.isEmpty || k == 1) = false := by rw [hi, Bool.false_or]; exact beq_eq_false_iff_ne.mpr (by omega)
  have c2 : (decide (k ≤ 0) || its.toArray.isEmpty) = false := by rw [hi, Bool.or_false]; exact decide_eq_false (by omega)
  have c4 : Builtin.Tuple.tupleTooMany (((its.toArray.size : Nat) : Int) * k) = false := by
    unfold Builtin.Tuple.tupleTooMany
    rw [sizeLine_eq]; exact decide_eq_false (by omega)
  refine wpAny_binaryOp_repeat_ref (T := "tuple") (U := "int") (by decide) ⟨_, ho, rfl⟩ (fun s' => typeIs_int s' k t) noFill_tuple_mul F.fills_int_mul F.slot_int_rmul repeat_tuple F.slot_int_index.lookup (call_meets F.slot_int_rmul (typeIs_int s k t) F.entry_int_rmul (F.args_int_rmul_2 _ _) (int_rmul_tuple k t l its.toArray n dd sl)
    ⟨ho, rfl, ⟨_, ho, rfl⟩, call_meets F.slot_tuple_mul ⟨_, ho, rfl⟩ F.entry_tuple_mul (F.args_tuple_mul_2 _ _) (tuple_mulW l its.toArray n dd sl k t c0 c1 c2 (by omega) c4 (by rw [size_rep, List.size_toArray]; exact fl)) ⟨ho, ?_⟩⟩)
  rw [size_rep]
  exact ft_new (tk := s.toks) J (r.rep k.toNat) (by rw [PyProof.Rows.lm_len_rep_flat, sizeLine_eq]; omega) q
/-- isinstance(x, (c1, c2, ..)), the tuple as above -/
def rIsiF (K : PySem.W.Frag) : List V → Hp → VK → Prop := fun xs H Q => ∃ (x : V) (tp : Addr) (cs : List V) (ob : Obj) (t : Value) (us : List Value) (b : Bool), xs = [x, .ref tp] ∧ H tp = some (.frz ob (.tup cs)) ∧ Paired ClsV cs us ∧ TyX K H x t ∧ PySem.W.kitAny K t us = some b ∧ Q (.bl b) H
theorem call_isiF : CallR X (.builtin "isinstance") (rIsiF X.K) := by
  intro pins s σ H xs us Q J r w
  obtain ⟨x, tp, cs, ob, t, ws, b, rfl, hT, k, ty, e, q⟩ := w
  obtain ⟨u1, u2, rfl, r1, r2⟩ := vals2 r
  cases (show u2 = Value.ref tp from r2)
  obtain ⟨P, Z, p, hx⟩ := kit_of J r1 ty
  obtain ⟨_, _, its, rv, ⟨oc, od, dt, sl⟩, e1, e2, n, e3⟩ := (show ObjOk X.prog X.w H s.heap tp (.frz ob (.tup cs)) from J.hok tp _ hT)
  have e4 := ClsV.all k rv
  subst e4
  simp only at e2 e3
  subst e2 e3
  exact PySem.W.kia_tup Z J.kIn p e1 e hx fun tk => ⟨.bl b, H, J.tok tk, rfl, q⟩
end
end Rh

set_option Elab.async false
set_option linter.all false
set_option maxRecDepth 100000
set_option maxHeartbeats 2000000
set_option autoImplicit false
namespace Rh
open PySem PySem.Spec PyProof.Rows L2
open PySem.W PySem.Calls PySem.HandSPX
section
variable {prog : Program} {w : World} {M : Model} {A : Around} {E : Value → Shared → Prop} {R : Result → Shared → Prop} {h : Heap} {g : Array GenState} {d : Drawn} {t : Nat} {os : OsState}
variable {nm q : Str} {C N : Addr} {bs bm bmB : List Value} {hdct : Bool} {sn : List Str} {sub : List Value} {ab : Bool} {col : Option Bool} {dd : Option Addr} {k0 k1 k2 k3 k5 : Option Value} {B newId initId : String}
end
end Rh

set_option Elab.async false
set_option linter.all false
set_option maxRecDepth 100000
set_option autoImplicit false
namespace Rh
open PySem PySem.Spec PyProof.Rows L2

/-! ### data: values are trees over numbered boxes; boxes (what can change) stand in a table -/
inductive Ty where | int | bool | str | tuple | list | dict | none
  deriving DecidableEq
def Ty.name : Ty → String
  | .int => "int" | .bool => "bool" | .str => "str" | .tuple => "tuple" | .list => "list" | .dict => "dict" | .none => "NoneType"
/-- values; `gl x` is what the module's name x holds -/
inductive D where
  | non | bl (b : Bool) | int (i : Int) | str (x : Str)
  | tup (ds : List D) | box (n : Nat) | ty (n : Ty) | scr (ds : List D) | gl (x : Str)
  /-- the lambda that was handed in: only a slot holds it -/
  | lm
/-- what stands in a box -/
inductive O where
  | lst (ds : List D)
  | dct (nks : List NestedKey) (ks vs : List D)
  | lam (q : Nat) (cs : List D)
  | exo (c : Str) (fs : List (Str × D))
  /-- an instance of the text's class c, its attributes -/
  | ins (c : Str) (fs : List (Str × D))

/-! a table by binary places -/
inductive Tr (α : Type) where
  | nil
  | node (v : Option α) (l r : Tr α)
def Tr.get {α : Type} (t : Tr α) : Nat → Option α := Tr.rec (motive := fun _ => Nat → Option α) (fun _ => none) (fun v _ _ pl pr i => match Nat.beq i 0 with
  | true => v
  | false => match Nat.beq (Nat.mod i 2) 1 with
    | true => pl (Nat.div i 2)
    | false => pr (Nat.sub (Nat.div i 2) 1)) t
def Tr.put0 {α : Type} (a : α) : Nat → Tr α → Nat → Option (Tr α)
  | 0, _, _ => none
  | f + 1, .nil, i => match Nat.beq i 0 with
    | true => some (.node (some a) .nil .nil)
    | false => match Nat.beq (i % 2) 1 with
      | true => match Tr.put0 a f .nil (i / 2) with
        | some t => some (.node none t .nil)
        | none => none
      | false => match Tr.put0 a f .nil (i / 2 - 1) with
        | some t => some (.node none .nil t)
        | none => none
  | f + 1, .node v l r, i => match Nat.beq i 0 with
    | true => some (.node (some a) l r)
    | false => match Nat.beq (i % 2) 1 with
      | true => match Tr.put0 a f l (i / 2) with
        | some t => some (.node v t r)
        | none => none
      | false => match Tr.put0 a f r (i / 2 - 1) with
        | some t => some (.node v l t)
        | none => none
theorem beq_dec (i j : Nat) : Nat.beq i j = decide (i = j) := by
  by_cases h : i = j
  · subst h; simp [Nat.beq_refl]
  · rw [decide_eq_false h]; exact Bool.eq_false_iff.mpr fun q => h (Nat.eq_of_beq_eq_true q)
theorem Tr.get_node {α : Type} (v : Option α) (l r : Tr α) (i : Nat) : (Tr.node v l r).get i = if i = 0 then v else if i % 2 = 1 then l.get (i / 2) else r.get (i / 2 - 1) := by
  show (match Nat.beq i 0 with | true => v | false => match Nat.beq (i % 2) 1 with | true => l.get (i / 2) | false => r.get (i / 2 - 1)) = _
  rw [beq_dec, beq_dec]
  by_cases h : i = 0
  · simp [h]
  · by_cases q : i % 2 = 1 <;> simp [h, q]
theorem Tr.get_nil {α : Type} (i : Nat) : (Tr.nil : Tr α).get i = none := rfl
theorem Tr.put0_get {α : Type} {a : α} : ∀ {f : Nat} {t t' : Tr α} {i : Nat}, Tr.put0 a f t i = some t' → ∀ j, t'.get j = if j = i then some a else t.get j
  | 0, _, _, _, h, _ => by cases h
  | f + 1, .nil, t', i, h, j => by
    unfold Tr.put0 at h
    rw [beq_dec, beq_dec] at h
    by_cases h0 : i = 0
    · subst h0
      simp at h; subst h
      rw [Tr.get_node, Tr.get_nil, Tr.get_nil]
      by_cases hj : j = 0 <;> simp [hj, Tr.get_nil]
    · by_cases h1 : i % 2 = 1
      · simp only [h0, h1, decide_false, decide_true] at h
        cases e : Tr.put0 a f .nil (i / 2) with
        | none => rw [e] at h; cases h
        | some u =>
          rw [e] at h; cases h
          rw [Tr.get_node, Tr.put0_get e, Tr.get_nil]
          by_cases hj : j = 0
          · subst hj; simp [Tr.get_nil, Ne.symm h0]
          · by_cases hp : j % 2 = 1
            · simp only [hj, hp, if_true, if_false]
              by_cases q : j / 2 = i / 2
              · have : j = i := by omega
                simp [this]
              · have : j ≠ i := fun z => q (by rw [z])
                simp [q, this, Tr.get_nil]
            · have : j ≠ i := fun z => hp (by rw [z]; exact h1)
              simp [hj, hp, this, Tr.get_nil]
      · simp only [h0, h1, decide_false] at h
        cases e : Tr.put0 a f .nil (i / 2 - 1) with
        | none => rw [e] at h; cases h
        | some u =>
          rw [e] at h; cases h
          rw [Tr.get_node, Tr.put0_get e, Tr.get_nil]
          by_cases hj : j = 0
          · subst hj; simp [Tr.get_nil, Ne.symm h0]
          · by_cases hp : j % 2 = 1
            · have : j ≠ i := fun z => h1 (by rw [← z]; exact hp)
              simp [hj, hp, this, Tr.get_nil]
            · simp only [hj, hp, if_false]
              by_cases q : j / 2 - 1 = i / 2 - 1
              · have : j = i := by omega
                simp [this]
              · have : j ≠ i := fun z => q (by rw [z])
                simp [q, this, Tr.get_nil]
  | f + 1, .node v l r, t', i, h, j => by
    unfold Tr.put0 at h
    rw [beq_dec, beq_dec] at h
    by_cases h0 : i = 0
    · subst h0
      simp at h; subst h
      rw [Tr.get_node, Tr.get_node]
      by_cases hj : j = 0 <;> simp [hj]
    · by_cases h1 : i % 2 = 1
      · simp only [h0, h1, decide_false, decide_true] at h
        cases e : Tr.put0 a f l (i / 2) with
        | none => rw [e] at h; cases h
        | some u =>
          rw [e] at h; cases h
          rw [Tr.get_node, Tr.put0_get e, Tr.get_node]
          by_cases hj : j = 0
          · subst hj; simp [Ne.symm h0]
          · by_cases hp : j % 2 = 1
            · simp only [hj, hp, if_true, if_false]
              by_cases q : j / 2 = i / 2
              · have : j = i := by omega
                simp [this]
              · have : j ≠ i := fun z => q (by rw [z])
                simp [q, this, Tr.get_nil]
            · have : j ≠ i := fun z => hp (by rw [z]; exact h1)
              simp [hj, hp, this]
      · simp only [h0, h1, decide_false] at h
        cases e : Tr.put0 a f r (i / 2 - 1) with
        | none => rw [e] at h; cases h
        | some u =>
          rw [e] at h; cases h
          rw [Tr.get_node, Tr.put0_get e, Tr.get_node]
          by_cases hj : j = 0
          · subst hj; simp [Ne.symm h0]
          · by_cases hp : j % 2 = 1
            · have : j ≠ i := fun z => h1 (by rw [← z]; exact hp)
              simp [hj, hp, this]
            · simp only [hj, hp, if_false]
              by_cases q : j / 2 - 1 = i / 2 - 1
              · have : j = i := by omega
                simp [this]
              · have : j ≠ i := fun z => q (by rw [z])
                simp [q, this, Tr.get_nil]
def Tr.put {α : Type} (a : α) (f : Nat) (t : Tr α) : Nat → Option (Tr α) := Tr.rec (motive := fun _ => Nat → Option (Tr α)) (fun i => match Nat.beq i 0 with
  | true => some (.node (some a) .nil .nil)
  | false => Tr.put0 a f .nil i) (fun v l r pl pr i => match Nat.beq i 0 with
  | true => some (.node (some a) l r)
  | false => match Nat.beq (Nat.mod i 2) 1 with
    | true => match pl (Nat.div i 2) with
      | some t => some (.node v t r)
      | none => none
    | false => match pr (Nat.sub (Nat.div i 2) 1) with
      | some t => some (.node v l t)
      | none => none) t
theorem Tr.put_nil {α : Type} {a : α} {f i : Nat} : Tr.put a f .nil i = if i = 0 then some (.node (some a) .nil .nil) else Tr.put0 a f .nil i := by
  show (match Nat.beq i 0 with | true => some (Tr.node (some a) .nil .nil) | false => Tr.put0 a f .nil i) = _
  rw [beq_dec]
  by_cases h : i = 0 <;> simp [h]
theorem Tr.put_node {α : Type} {a : α} {f i : Nat} {v : Option α} {l r : Tr α} : Tr.put a f (.node v l r) i = if i = 0 then some (.node (some a) l r) else if i % 2 = 1 then (Tr.put a f l (i / 2)).map (fun t => Tr.node v t r) else (Tr.put a f r (i / 2 - 1)).map fun t => Tr.node v l t := by
  show (match Nat.beq i 0 with
    | true => some (Tr.node (some a) l r)
    | false => match Nat.beq (i % 2) 1 with
      | true => match Tr.put a f l (i / 2) with
        | some t => some (Tr.node v t r)
        | none => none
      | false => match Tr.put a f r (i / 2 - 1) with
        | some t => some (Tr.node v l t)
        | none => none) = _
  rw [beq_dec, beq_dec]
  by_cases h : i = 0
  · simp [h]
  · by_cases q : i % 2 = 1
    · simp only [h, q, decide_false, decide_true, if_true, if_false]
      cases Tr.put a f l (i / 2) <;> rfl
    · simp only [h, q, decide_false, if_false]
      cases Tr.put a f r (i / 2 - 1) <;> rfl
theorem Tr.put_get {α : Type} {a : α} {f : Nat} : ∀ {t t' : Tr α} {i : Nat}, Tr.put a f t i = some t' → ∀ j, t'.get j = if j = i then some a else t.get j
  | .nil, t', i, h, j => by
    rw [Tr.put_nil] at h
    by_cases h0 : i = 0
    · rw [if_pos h0] at h
      cases h
      subst h0
      rw [Tr.get_node, Tr.get_nil, Tr.get_nil]
      by_cases hj : j = 0 <;> simp [hj, Tr.get_nil]
    · rw [if_neg h0] at h
      exact Tr.put0_get h j
  | .node v l r, t', i, h, j => by
    rw [Tr.put_node] at h
    by_cases h0 : i = 0
    · rw [if_pos h0] at h
      cases h
      subst h0
      rw [Tr.get_node, Tr.get_node]
      by_cases hj : j = 0 <;> simp [hj]
    · rw [if_neg h0] at h
      by_cases h1 : i % 2 = 1
      · rw [if_pos h1] at h
        obtain ⟨u, e, rfl⟩ := Option.map_eq_some_iff.mp h
        rw [Tr.get_node, Tr.get_node, Tr.put_get e]
        by_cases hj : j = 0
        · subst hj; simp [Ne.symm h0]
        · by_cases hp : j % 2 = 1
          · simp only [hj, hp, if_true, if_false]
            by_cases q : j / 2 = i / 2
            · have : j = i := by omega
              simp [this]
            · have : j ≠ i := fun z => q (by rw [z])
              simp [q, this]
          · have : j ≠ i := fun z => hp (by rw [z]; exact h1)
            simp [hj, hp, this]
      · rw [if_neg h1] at h
        obtain ⟨u, e, rfl⟩ := Option.map_eq_some_iff.mp h
        rw [Tr.get_node, Tr.get_node, Tr.put_get e]
        by_cases hj : j = 0
        · subst hj; simp [Ne.symm h0]
        · by_cases hp : j % 2 = 1
          · have : j ≠ i := fun z => h1 (by rw [← z]; exact hp)
            simp [hj, hp, this]
          · simp only [hj, hp, if_false]
            by_cases q : j / 2 - 1 = i / 2 - 1
            · have : j = i := by omega
              simp [this]
            · have : j ≠ i := fun z => q (by rw [z])
              simp [q, this]
/-- all boxes -/
structure Hs where
  n : Nat
  t : Tr O
  /-- boxes that are walked: not to be changed -/
  lk : List Nat
def Hs.get (h : Hs) (i : Nat) : Option O := h.t.get i
def Hs.set (h : Hs) (i : Nat) (o : O) : Option Hs := match h.lk.all fun j => !Nat.beq j i with
  | false => none
  | true => match Tr.put o 40 h.t i with
    | some t => some ⟨h.n, t, h.lk⟩
    | none => none
def Hs.new (h : Hs) (o : O) : Option Hs := match Tr.put o 40 h.t h.n with
  | some t => some ⟨h.n + 1, t, h.lk⟩
  | none => none
theorem Hs.set_ok {h h' : Hs} {i : Nat} {o : O} (e : h.set i o = some h') : i ∉ h.lk ∧ h'.lk = h.lk ∧ h'.n = h.n ∧ ∀ j, h'.get j = if j = i then some o else h.get j := by
  unfold Hs.set at e
  split at e
  · cases e
  · rename_i hl
    split at e
    · rename_i t q
      cases e
      refine ⟨fun m => ?_, rfl, rfl, Tr.put_get q⟩
      have := List.all_eq_true.mp hl i m
      rw [Nat.beq_refl] at this
      cases this
    · cases e
theorem Hs.new_lk {h h' : Hs} {o : O} (e : h.new o = some h') : h'.lk = h.lk := by
  unfold Hs.new at e; split at e <;> cases e; rfl
theorem Hs.new_n {h h' : Hs} {o : O} (e : h.new o = some h') : h'.n = h.n + 1 := by
  unfold Hs.new at e; split at e <;> cases e; rfl
theorem Hs.new_get {h h' : Hs} {o : O} (e : h.new o = some h') (j : Nat) : h'.get j = if j = h.n then some o else h.get j := by
  unfold Hs.new at e
  split at e
  · rename_i t q; cases e; exact Tr.put_get q j
  · cases e

/-! ### keys -/
mutual
def keyD : D → Option NestedKey
  | .non => some .none
  | .bl b => some (.num (if b = true then 1 else 0))
  | .int i => some (.num i)
  | .str x => some (.text x)
  | .tup ds => (keysD ds).map .tup
  | .box _ => none
  | .gl _ => none
  | .ty _ => none
  | .scr _ => none
  | .lm => none
def keysD : List D → Option (List NestedKey)
  | [] => some []
  | d :: ds => match keyD d, keysD ds with
    | some k, some ks => some (k :: ks)
    | _, _ => none
end
/-- keys of one kind: plain ones alone, or tuples not too deep -/
def leafK : NestedKey → Bool
  | .tup _ => false
  | _ => true
def homK (ks : List NestedKey) : Bool := ks.all leafK || ks.all fun x => !leafK x && decide (x.depth ≤ 8)
/-- a dict's raw object: entries with the keys' kinds -/
def DicO (w : World) (a : Addr) (es : Nat × List (NestedKey × V × V)) : HO := .ext fun h => (a == sysModules) = false ∧ es.2.length ≤ sizeLine ∧ ∃ (o : Obj) (ents : Array DictEntry), h.get? a = some o ∧ o.ExactDict ∧ o.data = .dict ents es.1 ∧
  Paired (fun (e : NestedKey × V × V) (d : DictEntry) => d.hash = e.1.hash w ∧ RelV e.2.1 d.key ∧ RelV e.2.2 d.val) es.2 ents.toList ∧ (es.2.map (·.1)).Nodup ∧ homK (es.2.map (·.1)) = true

/-- an exception object of the class cls, made and not raised -/
def XoO (cls : Value) (d : Option Addr) (a : Addr) : HO := .ext fun h => ∃ (oe : Obj) (vs : Array Value), h.get? a = some oe ∧ oe.cls = cls ∧ oe.dict = d ∧ oe.data = .fields vs
/-- a tuple: tracked, or of the written part -/
def TupAt (K : PySem.W.Frag) (H : Hp) (a : Addr) (vs : List V) : Prop := (∃ o : Obj, H a = some (.frz o (.tup vs)) ∧ o.dict = none) ∨
    ∃ (o : Obj) (its : Array Value) (n : Nat), K.lookup a = some o ∧ o.cls = .type "tuple" ∧ o.dict = none ∧ o.data = .seq its n ∧ its.size ≤ sizeLine ∧ Vals vs its.toList
theorem TupAt.sq {K : PySem.W.Frag} {H : Hp} {a : Addr} {vs : List V} (h : TupAt K H a vs) : SqT K H a vs := by
  rcases h with ⟨o, h, _⟩ | ⟨o, its, n, e1, e2, _, r⟩
  · exact .inl (.inr ⟨o, h⟩)
  · exact .inr ⟨o, its, n, e1, e2, r⟩
/-- the script's list: kept by the law's head, never changed -/
def ScrAt (K : PySem.W.Frag) (H : Hp) (a : Addr) (vs : List V) : Prop := (∃ o, H a = some (.frz o (.lst vs))) ∨
    ∃ (o : Obj) (its : Array Value) (n : Nat), K.lookup a = some o ∧ o.cls = .type "list" ∧ o.dict = none ∧ o.data = .seq its n ∧ its.size ≤ sizeLine ∧ Vals vs its.toList
theorem ScrAt.sqL {K : PySem.W.Frag} {H : Hp} {a : Addr} {vs : List V} (h : ScrAt K H a vs) : SqL K H a vs := by
  rcases h with h | h
  · exact .inl (.inr h)
  · exact .inr h
/-- the tables of code objects that a lambda's making writes, and the names of the defs that make them -/
abbrev Mu0 := List Addr
class Tbs where
  T : List (Addr × Str)
  /-- where the lambda stands that was handed in -/
  fn : Option Addr
  /-- the boxes that stood where a def with a lambda began -/
  base : Mu0
  /-- code objects that stand -/
  cod : List (Addr × Str)
/-- the surroundings that values are read in -/
structure Ct where
  w : World
  K : PySem.W.Frag
  mg : Str → Option Value
abbrev Mu := List Addr
section
variable (C : Ct) (μ : Mu) (H : Hp)
mutual
def RepV : D → V → Prop
  | .non, v => v = .non
  | .bl b, v => v = .bl b
  | .int i, v => v = .int i
  | .str x, v => v = .str x
  | .tup ds, v => ∃ a vs, v = .ref a ∧ TupAt C.K H a vs ∧ RepL ds vs
  | .scr ds, v => ∃ a vs, v = .ref a ∧ ScrAt C.K H a vs ∧ RepL ds vs
  | .box n, v => ∃ a, v = .ref a ∧ μ[n]? = some a
  | .gl x, v => ∃ a, v = .ref a ∧ C.mg x = some (.ref a)
  | .ty n, v => v = .ty n.name
  | .lm, _ => False
def RepL : List D → List V → Prop
  | [], vs => vs = []
  | d :: ds, vs => ∃ v r, vs = v :: r ∧ RepV d v ∧ RepL ds r
end
/-- a box's content at its address -/
def ObR (a : Addr) : O → Prop
  | .lst ds => ∃ vs, H a = some (.lst vs) ∧ RepL C μ H ds vs
  | .dct nks ks vs => ∃ es, H a = some (DicO C.w a es) ∧ es.2.map (·.1) = nks ∧ keysD ks = some nks ∧ RepL C μ H ks (es.2.map (·.2.1)) ∧ RepL C μ H vs (es.2.map (·.2.2))
  | .lam _ _ => False
  | .exo c _ => ∃ (ac : Addr) (d : Option Addr), C.mg c = some (.ref ac) ∧ H a = some (XoO (.ref ac) d a) ∧ ∀ dx, d = some dx → ∃ od, H dx = some (.frz od (.own a))
  | .ins c fs => ∃ (C0 dx : Addr) (vs : List (Str × V)), C.mg c = some (.ref C0) ∧ H a = some (.ins C0 dx vs) ∧ vs.map (·.1) = fs.map (·.1) ∧ RepL C μ H (fs.map (·.2)) (vs.map (·.2))
/-- the tables, the code objects -/
def TbA [Tbs] (H : Hp) : Prop := LamX.Tabs Tbs.T H ∧ ∀ p ∈ Tbs.cod, H p.1 = some (LamX.CodeO p.1 p.2)
theorem TbA.ext [Tbs] {H H' : Hp} (t : TbA H) (s : ∀ b o, H b = some o → H' b = some o) : TbA H' := ⟨t.1.ext s, fun p hp => s _ _ (t.2 p hp)⟩
structure HR [Tbs] (L : List Nat) (μ : Mu) (H : Hp) (h : Hs) : Prop where
  lk : h.lk = L
  len : μ.length = h.n
  nd : μ.Nodup ∧ Tbs.base <+: μ
  tb : TbA H
  ob : ∀ (i : Nat) (a : Addr), μ[i]? = some a → ∃ o, h.get i = some o ∧ ObR C μ H a o
end
variable [Tbs]
/-- nothing, or a table -/
def NoT (o : Option HO) : Prop := ∀ u, o = some u → ∃ ps, u = .tbl ps
theorem NoT.none {o : Option HO} (e : o = none) : NoT o := fun u z => by rw [e] at z; cases z
theorem NoT.not {o : Option HO} {u : HO} (n : NoT o) (e : o = some u) (nt : ∀ ps, u ≠ .tbl ps) : False := let ⟨ps, z⟩ := n u e; nt ps z
theorem Mut.noT {u : HO} (m : Mut (some u)) : ∀ ps, u ≠ .tbl ps := fun ps z => by rw [z] at m; exact m
/-- from one heap to a later one: boxes are only added; what is no box stays, the tables aside -/
structure Go (L : List Nat) (μ : Mu) (H : Hp) (μ' : Mu) (H' : Hp) : Prop where
  lk : ∀ i ∈ L, ∀ a, μ[i]? = some a → H' a = H a
  keep : ∀ a o, H a = some o → (∀ ps, o ≠ .tbl ps) → a ∉ μ → H' a = some o
  dom : ∀ a, NoT (H' a) → NoT (H a)
  ext : ∃ r, μ' = μ ++ r
  new : ∀ a, a ∈ μ' → a ∈ μ ∨ NoT (H a)
section
variable {C : Ct} {L : List Nat} {μ μ' μ1 μ2 : Mu} {H H' H1 H2 : Hp} {h h' h1 h2 : Hs}
theorem Go.at_ (g : Go L μ H μ' H') {i : Nat} {a : Addr} (e : μ[i]? = some a) : μ'[i]? = some a := by
  obtain ⟨r, rfl⟩ := g.ext
  rw [List.getElem?_append_left (List.getElem?_eq_some_iff.mp e).1]; exact e
theorem noT_same (s : Same H H') : ∀ a, NoT (H' a) → NoT (H a) := fun a n u e => n u (s _ _ e)
theorem Go.refl : Go L μ H μ H := ⟨fun _ _ _ _ => rfl, fun _ _ e _ _ => e, fun _ e => e, ⟨[], (List.append_nil _).symm⟩, fun _ m => .inl m⟩
theorem Go.trans (g : Go L μ H μ1 H1) (g2 : Go L μ1 H1 μ2 H2) : Go L μ H μ2 H2 := by
  refine ⟨fun i m a e => (g2.lk i m a (g.at_ e)).trans (g.lk i m a e), fun a o e nt n => ?_, fun a e => g.dom a (g2.dom a e), ?_, fun a m => ?_⟩
  · refine g2.keep a o (g.keep a o e nt n) nt fun m => ?_
    rcases g.new a m with q | q
    · exact n q
    · exact q.not e nt
  · obtain ⟨r, rfl⟩ := g.ext
    obtain ⟨r2, rfl⟩ := g2.ext
    exact ⟨r ++ r2, by rw [List.append_assoc]⟩
  · rcases g2.new a m with q | q
    · exact g.new a q
    · exact .inr (g.dom a q)
theorem Go.mem (g : Go L μ H μ' H') {a : Addr} (e : a ∈ μ) : a ∈ μ' := by
  obtain ⟨r, rfl⟩ := g.ext
  exact List.mem_append_left _ e
theorem HR.mut (r : HR C L μ H h) {a : Addr} (m : a ∈ μ) : ∃ o, H a = some o ∧ Mut (some o) := by
  obtain ⟨i, e⟩ := List.mem_iff_getElem?.mp m
  obtain ⟨o, _, q⟩ := r.ob i a e
  cases o with
  | lst ds => obtain ⟨vs, e, _⟩ := q; exact ⟨_, e, True.intro⟩
  | dct nks ks vs => obtain ⟨es, e, _⟩ := q; exact ⟨_, e, True.intro⟩
  | lam _ _ => exact q.elim
  | exo _ _ => obtain ⟨ac, d, _, e, _⟩ := q; exact ⟨_, e, True.intro⟩
  | ins _ _ => obtain ⟨C0, dx, vs, _, e, _⟩ := q; exact ⟨_, e, True.intro⟩
theorem HR.some_at (r : HR C L μ H h) {i : Nat} {a : Addr} (e : μ[i]? = some a) : ∃ u, H a = some u := let ⟨o, q, _⟩ := r.mut (List.mem_of_getElem? e); ⟨o, q⟩
/-- new objects alone -/
theorem Go.same (r : HR C L μ H h) (s : Same H H') (d : ∀ a, H' a = none → H a = none) : Go L μ H μ H' := ⟨fun i _ a e => by obtain ⟨u, q⟩ := r.some_at e; rw [q, s _ _ q], fun a o e _ _ => s _ _ e, noT_same s, ⟨[], (List.append_nil _).symm⟩, fun _ m => .inl m⟩
theorem HR.not_mem (r : HR C L μ H h) {a : Addr} {o : HO} (e : H a = some o) (nm : ¬ Mut (some o)) : a ∉ μ := fun m => by
  obtain ⟨u, e2, q⟩ := r.mut m
  rw [e] at e2; cases e2
  exact nm q
/-- what is immutable stays -/
structure Stay (μ : Mu) (H : Hp) (μ' : Mu) (H' : Hp) : Prop where
  b : ∀ (i : Nat) (a : Addr), μ[i]? = some a → μ'[i]? = some a
  t : ∀ a xs, H a = some (.tup xs) → H' a = some (.tup xs)
  f : ∀ a o u, H a = some (.frz o u) → H' a = some (.frz o u)
theorem Stay.refl : Stay μ H μ H := ⟨fun _ _ e => e, fun _ _ e => e, fun _ _ _ e => e⟩
theorem Stay.trans (s : Stay μ H μ1 H1) (s2 : Stay μ1 H1 μ2 H2) : Stay μ H μ2 H2 := ⟨fun i a e => s2.b i a (s.b i a e), fun a xs e => s2.t a xs (s.t a xs e), fun a o u e => s2.f a o u (s.f a o u e)⟩
theorem Go.stay (r : HR C L μ H h) (g : Go L μ H μ' H') : Stay μ H μ' H' :=
  ⟨fun i a e => g.at_ e, fun a xs e => g.keep a _ e (fun _ z => nomatch z) (r.not_mem e fun q => q), fun a o u e => g.keep a _ e (fun _ z => nomatch z) (r.not_mem e fun q => q)⟩
theorem Same.stay (s : Same H H') : Stay μ H μ H' := ⟨fun _ _ e => e, fun a xs e => s _ _ e, fun a o u e => s _ _ e⟩
theorem Stay.tupAt {K : PySem.W.Frag} (s : Stay μ H μ' H') {a : Addr} {vs : List V} (h : TupAt K H a vs) : TupAt K H' a vs := by
  rcases h with ⟨o, h, d⟩ | h
  · exact .inl ⟨o, s.f _ _ _ h, d⟩
  · exact .inr h
theorem Stay.scr {K : PySem.W.Frag} (s : Stay μ H μ' H') {a : Addr} {vs : List V} (h : ScrAt K H a vs) : ScrAt K H' a vs := by
  rcases h with ⟨o, h⟩ | h
  · exact .inl ⟨o, s.f _ _ _ h⟩
  · exact .inr h
mutual
theorem RepV.stay (s : Stay μ H μ' H') : ∀ (d : D) (v : V), RepV C μ H d v → RepV C μ' H' d v
  | .non, _, h => h
  | .bl _, _, h => h
  | .int _, _, h => h
  | .str _, _, h => h
  | .gl _, _, h => h
  | .ty _, _, h => h
  | .lm, _, h => h
  | .tup ds, _, ⟨a, vs, e, q, r⟩ => ⟨a, vs, e, s.tupAt q, RepL.stay s ds vs r⟩
  | .scr ds, _, ⟨a, vs, e, q, r⟩ => ⟨a, vs, e, s.scr q, RepL.stay s ds vs r⟩
  | .box n, _, ⟨a, e, q⟩ => ⟨a, e, s.b _ _ q⟩
theorem RepL.stay (s : Stay μ H μ' H') : ∀ (ds : List D) (vs : List V), RepL C μ H ds vs → RepL C μ' H' ds vs
  | [], _, h => h
  | d :: ds, _, ⟨v, r, e, h1, h2⟩ => ⟨v, r, e, RepV.stay s d v h1, RepL.stay s ds r h2⟩
end
theorem RepV.go {d : D} {v : V} (q : RepV C μ H d v) (r : HR C L μ H h) (g : Go L μ H μ' H') : RepV C μ' H' d v := q.stay (g.stay r)
theorem RepL.go {d : List D} {v : List V} (q : RepL C μ H d v) (r : HR C L μ H h) (g : Go L μ H μ' H') : RepL C μ' H' d v := q.stay (g.stay r)
theorem RepL.length : ∀ {ds : List D} {vs : List V}, RepL C μ H ds vs → vs.length = ds.length
  | [], _, h => by rw [show _ = [] from h]; rfl
  | d :: ds, _, ⟨v, r, e, h1, h2⟩ => by rw [e, List.length_cons, List.length_cons, RepL.length h2]
theorem RepL.get : ∀ {ds : List D} {vs : List V} {i : Nat} {d : D}, RepL C μ H ds vs → ds[i]? = some d → ∃ v, vs[i]? = some v ∧ RepV C μ H d v
  | [], _, _, _, _, e => by simp at e
  | d :: ds, _, 0, _, ⟨v, r, e, h1, h2⟩, q => by simp at q; subst q; subst e; exact ⟨v, rfl, h1⟩
  | d :: ds, _, i + 1, _, ⟨v, r, e, h1, h2⟩, q => by
    subst e
    obtain ⟨u, a, b⟩ := RepL.get (i := i) h2 (by simpa using q)
    exact ⟨u, by simpa using a, b⟩
theorem RepL.append : ∀ {ds es : List D} {vs us : List V}, RepL C μ H ds vs → RepL C μ H es us → RepL C μ H (ds ++ es) (vs ++ us)
  | [], _, _, _, h, g => by rw [show _ = [] from h]; exact g
  | d :: ds, _, _, _, ⟨v, r, e, h1, h2⟩, g => by subst e; exact ⟨v, _, rfl, h1, RepL.append h2 g⟩
theorem RepL.set : ∀ {ds : List D} {vs : List V} {d : D} {v : V} (i : Nat), RepL C μ H ds vs → RepV C μ H d v → RepL C μ H (ds.set i d) (vs.set i v)
  | [], _, _, _, _, h, _ => by rw [show _ = [] from h]; rfl
  | d :: ds, _, _, _, 0, ⟨v, r, e, h1, h2⟩, g => by subst e; exact ⟨_, _, rfl, g, h2⟩
  | d :: ds, _, _, _, i + 1, ⟨v, r, e, h1, h2⟩, g => by subst e; exact ⟨v, _, rfl, h1, RepL.set i h2 g⟩
theorem RepL.drop : ∀ {ds : List D} {vs : List V} (i : Nat), RepL C μ H ds vs → RepL C μ H (ds.drop i) (vs.drop i)
  | _, _, 0, h => h
  | [], _, i + 1, h => by rw [show _ = [] from h]; rfl
  | d :: ds, _, i + 1, ⟨v, r, e, h1, h2⟩ => by subst e; exact RepL.drop i h2
theorem RepL.take : ∀ {ds : List D} {vs : List V} (i : Nat), RepL C μ H ds vs → RepL C μ H (ds.take i) (vs.take i)
  | _, _, 0, h => rfl
  | [], _, i + 1, h => by rw [show _ = [] from h]; rfl
  | d :: ds, _, i + 1, ⟨v, r, e, h1, h2⟩ => by subst e; exact ⟨v, _, rfl, h1, RepL.take i h2⟩
theorem RepL.nil_iff {ds : List D} {vs : List V} (h : RepL C μ H ds vs) : vs = [] ↔ ds = [] := by
  cases ds with
  | nil => exact ⟨fun _ => rfl, fun _ => h⟩
  | cons d ds => obtain ⟨v, r, rfl, _⟩ := h; exact ⟨fun e => (nomatch e), fun e => (nomatch e)⟩
theorem ObR.stay {a : Addr} {o : O} (s : Stay μ H μ' H') (q : ObR C μ H a o) (e : H' a = H a) : ObR C μ' H' a o := by
  cases o with
  | lst ds => obtain ⟨vs, e1, r⟩ := q; exact ⟨vs, e.trans e1, r.stay s⟩
  | dct nks ks vs => obtain ⟨es, e1, k1, k2, r1, r2⟩ := q; exact ⟨es, e.trans e1, k1, k2, r1.stay s, r2.stay s⟩
  | lam _ _ => exact q.elim
  | exo _ _ => obtain ⟨ac, d, k, e1, e2⟩ := q; exact ⟨ac, d, k, e.trans e1, fun dx ed => let ⟨od, e3⟩ := e2 dx ed; ⟨od, s.f _ _ _ e3⟩⟩
  | ins _ _ => obtain ⟨C0, dx, vs, k, e1, e2, e3⟩ := q; exact ⟨C0, dx, vs, k, e.trans e1, e2, e3.stay s⟩
theorem ObR.there {a : Addr} {o : O} (q : ObR C μ H a o) : ∃ u, H a = some u ∧ Mut (some u) := by
  cases o with
  | lst ds => obtain ⟨vs, e, _⟩ := q; exact ⟨_, e, True.intro⟩
  | dct nks ks vs => obtain ⟨es, e, _⟩ := q; exact ⟨_, e, True.intro⟩
  | lam _ _ => exact q.elim
  | exo _ _ => obtain ⟨ac, d, _, e, _⟩ := q; exact ⟨_, e, True.intro⟩
  | ins _ _ => obtain ⟨C0, dx, vs, _, e, _⟩ := q; exact ⟨_, e, True.intro⟩
/-- new objects alone, none of them a box -/
theorem HR.same (r : HR C L μ H h) (s : Same H H') : HR C L μ H' h :=
  ⟨r.lk, r.len, r.nd, r.tb.ext s, fun i a e => let ⟨o, e1, q⟩ := r.ob i a e; ⟨o, e1, q.stay (Same.stay s) (by obtain ⟨u, e2, _⟩ := q.there; rw [e2, s _ _ e2])⟩⟩
/-- no code object is a box -/
def heapN : Nat → Heap
  | 0 => { objs := #[] }
  | n + 1 => (heapN n).push { cls := .none, data := .fields #[] }
theorem heapN_size : ∀ n, (heapN n).objs.size = n
  | 0 => rfl
  | n + 1 => by
    show ((heapN n).push _).objs.size = n + 1
    rw [size_push', heapN_size n]
theorem codeO_ne_dic {c a : Addr} {q : Str} {w : World} {es : Nat × List (NestedKey × V × V)} (h : LamX.CodeO c q = DicO w c es) : False := by
  have ho : ((heapN c).push { cls := .none, data := .fields #[.none, .str q 0] }).get? c = some { cls := .none, data := .fields #[.none, .str q 0] } := by
    have := Heap.get?_push_size (heapN c) (o := { cls := .none, data := .fields #[.none, .str q 0] }) rfl
    rw [heapN_size] at this
    exact this
  unfold LamX.CodeO DicO at h
  injection h with h
  have h2 := congrFun h ((heapN c).push { cls := .none, data := .fields #[.none, .str q 0] })
  obtain ⟨_, _, o, ents, e1, e2, e3, _⟩ := h2.mp ⟨_, #[.none, .str q 0], 0, ho, rfl, rfl⟩
  rw [ho] at e1
  cases e1
  cases e3
theorem codeO_ne_exo {c ac : Addr} {d : Option Addr} {q : Str} (h : LamX.CodeO c q = XoO (.ref ac) d c) : False := by
  have ho : ((heapN c).push { cls := .none, data := .fields #[.none, .str q 0] }).get? c = some { cls := .none, data := .fields #[.none, .str q 0] } := by
    have := Heap.get?_push_size (heapN c) (o := { cls := .none, data := .fields #[.none, .str q 0] }) rfl
    rw [heapN_size] at this
    exact this
  unfold LamX.CodeO XoO at h
  injection h with h
  have h2 := congrFun h ((heapN c).push { cls := .none, data := .fields #[.none, .str q 0] })
  obtain ⟨oe, vs, e1, e2, _⟩ := h2.mp ⟨_, #[.none, .str q 0], 0, ho, rfl, rfl⟩
  rw [ho] at e1
  cases e1
  cases e2
theorem HR.code (r : HR C L μ H h) {c : Addr} {q : Str} (e : H c = some (LamX.CodeO c q)) : c ∉ μ := fun m => by
  obtain ⟨i, ei⟩ := List.mem_iff_getElem?.mp m
  obtain ⟨o, _, b⟩ := r.ob i c ei
  cases o with
  | lst ds => obtain ⟨vs, e1, _⟩ := b; rw [e] at e1; cases e1
  | dct nks ks vs => obtain ⟨es, e1, _⟩ := b; rw [e] at e1; exact codeO_ne_dic (a := c) (Option.some.inj e1)
  | lam _ _ => exact b.elim
  | exo _ _ => obtain ⟨ac, d, _, e1, _⟩ := b; rw [e] at e1; exact codeO_ne_exo (Option.some.inj e1)
  | ins _ _ => obtain ⟨C0, dx, vs, _, e1, _⟩ := b; rw [e] at e1; cases e1
/-- the tables, where no more than boxes change -/
theorem HR.tabs (r : HR C L μ H h) (k : ∀ b, b ∉ μ → H' b = H b) : TbA H' := by
  refine ⟨fun p hp => ?_, fun p hp => (k _ (r.code (r.tb.2 p hp))).trans (r.tb.2 p hp)⟩
  obtain ⟨ps, h1, h2, h3⟩ := r.tb.1 p hp
  refine ⟨ps, (k _ (r.not_mem h1 fun q => q)).trans h1, h2, fun pos cv hc => ?_⟩
  obtain ⟨c, e1, e2⟩ := h3 pos cv hc
  exact ⟨c, e1, (k _ (r.code e2)).trans e2⟩
/-- a new box -/
theorem HR.new {a : Addr} {o : O} (r : HR C L μ H h) (s : Same H H') (d : ∀ b, H' b = none → H b = none) (ha : H a = none) (q : ObR C (μ ++ [a]) H' a o) (e : h.new o = some h') : HR C L (μ ++ [a]) H' h' ∧ Go L μ H (μ ++ [a]) H' := by
  have na : a ∉ μ := fun m => by obtain ⟨u, e2, _⟩ := r.mut m; rw [ha] at e2; cases e2
  have st : Stay μ H (μ ++ [a]) H' := ⟨fun i b e => by rw [List.getElem?_append_left (List.getElem?_eq_some_iff.mp e).1]; exact e, fun _ _ e => s _ _ e, fun _ _ _ e => s _ _ e⟩
  refine ⟨⟨(Hs.new_lk e).trans r.lk, by rw [List.length_append, r.len, Hs.new_n e]; rfl, ⟨?_, r.nd.2.trans ⟨[a], rfl⟩⟩, r.tb.ext s, fun i b eb => ?_⟩, fun i _ b eb => by obtain ⟨u, q⟩ := r.some_at eb; rw [q, s _ _ q], fun b u eb _ _ => s _ _ eb, noT_same s, ⟨[a], rfl⟩, fun b m => ?_⟩
  · rw [List.nodup_append]
    exact ⟨r.nd.1, by simp, fun x hx y hy => by rw [List.mem_singleton] at hy; subst hy; exact fun z => na (z ▸ hx)⟩
  · rw [Hs.new_get e]
    by_cases hi : i = h.n
    · subst hi
      rw [if_pos rfl]
      rw [← r.len, List.getElem?_append_right (Nat.le_refl _)] at eb
      simp at eb; subst eb
      exact ⟨o, rfl, q⟩
    · rw [if_neg hi]
      have hl := (List.getElem?_eq_some_iff.mp eb).1
      rw [List.length_append, List.length_singleton, r.len] at hl
      rw [List.getElem?_append_left (by rw [r.len]; omega)] at eb
      obtain ⟨u, e1, q1⟩ := r.ob i b eb
      exact ⟨u, e1, q1.stay st (by obtain ⟨y, e2, _⟩ := q1.there; rw [e2, s _ _ e2])⟩
  · rcases List.mem_append.mp m with m | m
    · exact .inl m
    · rw [List.mem_singleton] at m; subst m; exact .inr (NoT.none ha)
/-- a box changed -/
theorem HR.set {a : Addr} {o : O} {i : Nat} (r : HR C L μ H h) (ha : μ[i]? = some a) (hb : ∀ b, b ≠ a → H' b = H b) (hs : ∃ u, H' a = some u) (q : ObR C μ H' a o) (e : h.set i o = some h') : HR C L μ H' h' ∧ Go L μ H μ H' := by
  have ma : a ∈ μ := List.mem_of_getElem? ha
  have st : Stay μ H μ H' := ⟨fun _ _ e => e, fun b xs e => by rw [hb b fun z => r.not_mem e (fun q => q) (z ▸ ma)]; exact e, fun b u v e => by rw [hb b fun z => r.not_mem e (fun q => q) (z ▸ ma)]; exact e⟩
  obtain ⟨nl, el, en, eg⟩ := Hs.set_ok e
  have na : ∀ j b, μ[j]? = some b → j ≠ i → b ≠ a := fun j b eb hj z => by
    subst z
    exact hj ((List.getElem?_inj (List.getElem?_eq_some_iff.mp eb).1 r.nd.1).mp (eb.trans ha.symm))
  refine ⟨⟨el.trans r.lk, by rw [r.len, en], r.nd, r.tabs fun b nb => hb b fun z => nb (z ▸ ma), fun j b eb => ?_⟩, fun j m b eb => hb b (na j b eb fun z => nl (by rw [r.lk]; exact z ▸ m)), fun b u eb _ nb => by rw [hb b fun z => nb (z ▸ ma)]; exact eb, fun b eb => ?_, ⟨[], (List.append_nil _).symm⟩, fun _ m => .inl m⟩
  · rw [eg]
    by_cases hj : j = i
    · subst hj
      rw [if_pos rfl]
      rw [ha] at eb; cases eb
      exact ⟨o, rfl, q⟩
    · rw [if_neg hj]
      have nb : b ≠ a := na j b eb hj
      obtain ⟨u, e1, q1⟩ := r.ob j b eb
      exact ⟨u, e1, q1.stay st (hb b nb)⟩
  · by_cases z : b = a
    · subst z; obtain ⟨u, e2, m2⟩ := q.there; exact (NoT.not eb e2 (Mut.noT m2)).elim
    · rw [← hb b z]; exact eb
end

/-! ### the frame -/
abbrev En := List (Option D)
/-- a slot's value -/
def RepS (C : Ct) (μ : Mu) (H : Hp) : D → V → Prop
  | .lm, v => ∃ a, Tbs.fn = some a ∧ v = .ref a
  | d, v => RepV C μ H d v
structure Rel (C : Ct) (L : List Nat) (ρ : En) (σ : L2.St) (μ : Mu) (H : Hp) (h : Hs) : Prop where
  len : ρ.length = σ.length
  val : ∀ (i : Nat) (d : D), ρ[i]? = some (some d) → ∃ v, σ[i]? = some (some v) ∧ RepS C μ H d v
  hr : HR C L μ H h
section
variable {C : Ct} {L : List Nat} {ρ : En} {σ : L2.St} {μ μ' : Mu} {H H' : Hp} {h h' : Hs}
theorem RepV.s {d : D} {v : V} (q : RepV C μ H d v) : RepS C μ H d v := by
  cases d <;> first | exact q | exact False.elim q
theorem RepS.v {d : D} {v : V} (q : RepS C μ H d v) (n : d ≠ .lm) : RepV C μ H d v := by
  cases d <;> first | exact q | exact absurd rfl n
theorem RepS.stay {d : D} {v : V} (q : RepS C μ H d v) (s : Stay μ H μ' H') : RepS C μ' H' d v := by
  cases d <;> first | exact RepV.stay s _ _ q | exact q
theorem RepS.go {d : D} {v : V} (q : RepS C μ H d v) (r : HR C L μ H h) (g : Go L μ H μ' H') : RepS C μ' H' d v := q.stay (g.stay r)
theorem Rel.go (r : Rel C L ρ σ μ H h) (g : Go L μ H μ' H') (r' : HR C L μ' H' h') : Rel C L ρ σ μ' H' h' :=
  ⟨r.len, fun i d e => let ⟨v, a, b⟩ := r.val i d e; ⟨v, a, b.go r.hr g⟩, r'⟩
theorem Rel.set (r : Rel C L ρ σ μ H h) {i : Nat} {d : D} {x : V} (q : RepV C μ H d x) : Rel C L (ρ.set i (some d)) (σ.set i (some x)) μ H h := by
  refine ⟨by rw [List.length_set, List.length_set]; exact r.len, fun j e ej => ?_, r.hr⟩
  by_cases hj : i = j
  · subst hj
    have hl : i < ρ.length := by
      have := (List.getElem?_eq_some_iff.mp ej).1
      rwa [List.length_set] at this
    rw [List.getElem?_set_self hl] at ej; cases ej
    exact ⟨x, List.getElem?_set_self (r.len ▸ hl), q.s⟩
  · rw [List.getElem?_set_ne hj] at ej ⊢
    exact r.val j e ej
end
end Rh

set_option Elab.async false
set_option linter.all false
set_option maxRecDepth 100000
set_option autoImplicit false
namespace Rh
open PySem PySem.Spec PyProof.Rows L2
variable [Tbs]

abbrev ctX (X : Cx) : Ct := ⟨X.w, X.K, X.mg⟩
inductive R (α : Type) where
  | ok (a : α) (h : Hs)
  | ex (c : Str) (fs : List (Str × D)) (h : Hs)
abbrev M (α : Type) := En → Hs → Option (R α)
def mPure {α : Type} (a : α) : M α := fun _ h => some (.ok a h)
def mBind {α β : Type} (m : M α) (g : α → M β) : M β := fun ρ h => match m ρ h with
  | none => none
  | some (.ok a h1) => g a ρ h1
  | some (.ex c fs h1) => some (.ex c fs h1)
/-- an exception -/
def RepX (C : Ct) (μ : Mu) (H : Hp) (c : Str) (fs : List (Str × D)) (cls : Value) (d : Option Addr) : Prop :=
  (∃ a, C.mg c = some (.ref a) ∧ cls = .ref a) ∧ match fs with
    | [] => d = none
    | fs => ∃ dx vs, d = some dx ∧ H dx = some (.xd vs) ∧ vs.map (·.1) = fs.map (·.1) ∧ RepL C μ H (fs.map (·.2)) (vs.map (·.2))
section
variable (X : Cx) (W : WX)
def Sat {α : Type} (L : List Nat) (σ : L2.St) (μ : Mu) (H : Hp) (o : Option (R α)) (P : α → Hs → Mu → Hp → Prop) : Prop := match o with
  | none => False
  | some (.ok a h') => ∀ μ' H', Go L μ H μ' H' → HR (ctX X) L μ' H' h' → P a h' μ' H'
  | some (.ex c fs h') => ∀ cls d μ' H', Go L μ H μ' H' → HR (ctX X) L μ' H' h' → RepX (ctX X) μ' H' c fs cls d → W cls d σ H'
/-- a mirror's reading, from some frame and boxes -/
def rdG {α : Type} (m : M α) (σ : L2.St) (H : Hp) (P : En → List Nat → α → Hs → Mu → Hp → Prop) : Prop := ∃ ρ L μ h, Rel (ctX X) L ρ σ μ H h ∧ Sat X W L σ μ H (m ρ h) (P ρ L)
def rd (m : M D) : TE := fun σ H Q => rdG X W m σ H fun _ _ d _ μ' H' => ∀ x, RepV (ctX X) μ' H' d x → Q x H'
def rdA (m : M (List D)) : TA := fun σ H Q => rdG X W m σ H fun _ _ ds _ μ' H' => ∀ xs, RepL (ctX X) μ' H' ds xs → Q xs H'
def rdT (m : M Bool) : TT := fun σ H Q => rdG X W m σ H fun _ _ b _ _ H' => Q b H'
end
section
variable {X : Cx} {W : WX} {L : List Nat} {ρ : En} {σ : L2.St} {H H' H1 H2 : Hp} {μ μ' μ1 μ2 : Mu} {h h' h1 h2 : Hs}
theorem Sat.none {α : Type} {P : α → Hs → Mu → Hp → Prop} (q : Sat X W L σ μ H none P) {C : Prop} : C := False.elim q
/-- sequence, the later part in a later state -/
theorem Sat.bind {α β : Type} {m : M α} {g : α → M β} {P : β → Hs → Mu → Hp → Prop} (r : Rel (ctX X) L ρ σ μ H h) (q : Sat X W L σ μ H (mBind m g ρ h) P) :
    Sat X W L σ μ H (m ρ h) fun a h1 μ1 H1 => Go L μ H μ1 H1 ∧ Rel (ctX X) L ρ σ μ1 H1 h1 ∧ Sat X W L σ μ1 H1 (g a ρ h1) P := by
  unfold mBind at q
  cases e : m ρ h with
  | none => rw [e] at q; exact q.none
  | some o =>
    rw [e] at q
    cases o with
    | ex c fs ρ1 => exact q
    | ok a h1 =>
      intro μ1 H1 g1 r1
      have q : Sat X W L σ μ H (g a ρ h1) P := q
      refine ⟨g1, r.go g1 r1, ?_⟩
      cases e2 : g a ρ h1 with
      | none => rw [e2] at q; exact q.none
      | some o =>
        rw [e2] at q
        cases o with
        | ok b h2 => exact fun μ2 H2 g2 r2 => q μ2 H2 (g1.trans g2) r2
        | ex c fs h2 => exact fun cls d μ2 H2 g2 r2 x => q cls d μ2 H2 (g1.trans g2) r2 x
theorem Sat.imp {α : Type} {o : Option (R α)} {P P' : α → Hs → Mu → Hp → Prop} (q : Sat X W L σ μ H o P) (k : ∀ a h' μ' H', Go L μ H μ' H' → HR (ctX X) L μ' H' h' → P a h' μ' H' → P' a h' μ' H') : Sat X W L σ μ H o P' := by
  cases o with
  | none => exact q.none
  | some o =>
    cases o with
    | ok a h1 => exact fun μ1 H1 g r => k _ _ _ _ g r (q μ1 H1 g r)
    | ex c fs ρ1 => exact q
theorem Sat.start {α : Type} {o : Option (R α)} {P : α → Hs → Mu → Hp → Prop} (q : Sat X W L σ μ H o P) (g : Go L μ H μ1 H1) : Sat X W L σ μ1 H1 o P := by
  cases o with
  | none => exact q.none
  | some o =>
    cases o with
    | ok a h1 => exact fun μ2 H2 g2 r => q μ2 H2 (g.trans g2) r
    | ex c fs h1 => exact fun cls d μ2 H2 g2 r x => q cls d μ2 H2 (g.trans g2) r x
theorem rdG_bind {α β : Type} {m : M α} {g : α → M β} {P : En → List Nat → β → Hs → Mu → Hp → Prop} (q : rdG X W (mBind m g) σ H P) :
    rdG X W m σ H fun ρ L a h1 μ1 H1 => Rel (ctX X) L ρ σ μ1 H1 h1 ∧ Sat X W L σ μ1 H1 (g a ρ h1) (P ρ L) := by
  obtain ⟨ρ, L, μ, h, rel, q⟩ := q
  exact ⟨ρ, L, μ, h, rel, (q.bind rel).imp fun a h1 μ1 H1 _ _ p => p.2⟩
theorem rdG_imp {α : Type} {m : M α} {P P' : En → List Nat → α → Hs → Mu → Hp → Prop} (q : rdG X W m σ H P) (k : ∀ ρ L a h' μ' H', P ρ L a h' μ' H' → P' ρ L a h' μ' H') : rdG X W m σ H P' := by
  obtain ⟨ρ, L, μ, h, rel, q⟩ := q
  exact ⟨ρ, L, μ, h, rel, q.imp fun a h1 μ1 H1 _ _ p => k _ _ _ _ _ _ p⟩
theorem rdG_pure {α : Type} {a : α} {P : En → List Nat → α → Hs → Mu → Hp → Prop} (q : rdG X W (mPure a) σ H P) : ∃ ρ L μ h, Rel (ctX X) L ρ σ μ H h ∧ P ρ L a h μ H := by
  obtain ⟨ρ, L, μ, h, rel, q⟩ := q
  exact ⟨ρ, L, μ, h, rel, q μ H .refl rel.hr⟩
end

/-! ### values from values -/
/-- a value, or what a new box holds -/
inductive Nv where | v (d : D) | n (o : O)
def Nv.lift (n : Nv) (h : Hs) : Option (R D) := match n with
  | .v d => some (.ok d h)
  | .n o => match h.new o with
    | some h' => some (.ok (.box h.n) h')
    | none => none
def RepN (C : Ct) (μ : Mu) (H H' : Hp) (n : Nv) (x : V) : Prop := match n with
  | .v d => RepV C μ H' d x
  | .n o => ∃ a, x = .ref a ∧ H a = none ∧ ∀ r, ObR C (μ ++ r) H' a o
/-- what is wanted of a value rule: new objects alone -/
abbrev Want (C : Ct) (μ : Mu) (H : Hp) (n : Nv) (Q : VK) : Prop := ∀ x H', Same H H' → (∀ a, H' a = none → H a = none) → RepN C μ H H' n x → Q x H'
def Cov2 (C : Ct) (r : R2) (f : Hs → D → D → Option Nv) : Prop := ∀ (H : Hp) (L : List Nat) (μ : Mu) (h : Hs) (x y : V) (d e : D) (n : Nv) (Q : VK), HR C L μ H h → RepV C μ H d x → RepV C μ H e y → f h d e = some n → Want C μ H n Q → r x y H Q
def CovA (C : Ct) (r : List V → Hp → VK → Prop) (f : Hs → List D → Option Nv) : Prop := ∀ (H : Hp) (L : List Nat) (μ : Mu) (h : Hs) (xs : List V) (ds : List D) (n : Nv) (Q : VK), HR C L μ H h → RepL C μ H ds xs → f h ds = some n → Want C μ H n Q → r xs H Q
def lift (h : Hs) (o : Option Nv) : Option (R D) := match o with
  | none => none
  | some n => n.lift h
def mOp2 (f : Hs → D → D → Option Nv) (a b : M D) : M D := mBind a fun x => mBind b fun y => fun _ h => lift h (f h x y)
def mOp1 (f : Hs → D → Option Nv) (a : M D) : M D := mBind a fun x => fun _ h => lift h (f h x)
def mOpA (f : Hs → List D → Option Nv) (a : M (List D)) : M D := mBind a fun xs => fun _ h => lift h (f h xs)
section
variable {X : Cx} {W : WX} {L : List Nat} {ρ : En} {σ : L2.St} {H H' H1 H2 : Hp} {μ μ' μ1 μ2 : Mu} {h h' h1 h2 : Hs} {Q : VK}
/-- the end of a value rule -/
theorem Sat.lift {n : Option Nv} (r : HR (ctX X) L μ H h) (q : Sat X W L σ μ H (lift h n) fun d h' μ' H' => ∀ x, RepV (ctX X) μ' H' d x → Q x H') : ∃ m, n = some m ∧ Want (ctX X) μ H m Q := by
  cases n with
  | none => exact q.none
  | some m =>
    refine ⟨m, rfl, fun x H' s dm rn => ?_⟩
    cases m with
    | v d => exact q μ H' (.same r s dm) (r.same s) x rn
    | n o =>
      obtain ⟨a, rfl, ha, ob⟩ := rn
      have q : Sat X W L σ μ H ((Nv.n o).lift h) fun d h' μ' H' => ∀ x, RepV (ctX X) μ' H' d x → Q x H' := q
      unfold Nv.lift at q
      cases e : h.new o with
      | none => simp only [e] at q; exact q.none
      | some h' =>
        simp only [e] at q
        obtain ⟨r', g⟩ := r.new s dm ha (ob [a]) e
        refine q _ H' g r' (.ref a) ⟨a, rfl, ?_⟩
        rw [← r.len, List.getElem?_append_right (Nat.le_refl _)]
        simp
theorem rd_op2 {r : R2} {f : Hs → D → D → Option Nv} {a b : M D} (c : Cov2 (ctX X) r f) (q : rd X W (mOp2 f a b) σ H Q) : tOp r (rd X W a) (rd X W b) σ H Q := by
  obtain ⟨ρ, L, μ, h, rel, q⟩ := q
  refine ⟨ρ, L, μ, h, rel, (q.bind rel).imp fun x h1 μ1 H1 g1 _ ⟨_, rel1, q1⟩ vx rx => ⟨ρ, L, μ1, h1, rel1, (q1.bind rel1).imp fun y h2 μ2 H2 g2 _ ⟨_, rel2, q2⟩ vy ry => ?_⟩⟩
  obtain ⟨n, en, want⟩ := Sat.lift rel2.hr q2
  exact c _ _ _ _ _ _ _ _ _ _ rel2.hr (rx.go rel1.hr g2) ry en want
theorem rd_opA {r : List V → Hp → VK → Prop} {f : Hs → List D → Option Nv} {a : M (List D)} (c : CovA (ctX X) r f) (q : rd X W (mOpA f a) σ H Q) : tCB r (rdA X W a) σ H Q := by
  obtain ⟨ρ, L, μ, h, rel, q⟩ := q
  refine ⟨ρ, L, μ, h, rel, (q.bind rel).imp fun x h1 μ1 H1 g1 _ ⟨_, rel1, q1⟩ vx rx => ?_⟩
  obtain ⟨n, en, want⟩ := Sat.lift rel1.hr q1
  exact c _ _ _ _ _ _ _ _ rel1.hr rx en want

/-! ### expressions -/
theorem pe_imp {e : Expr} {t t' : TE} (p : PE X e t) (h : ∀ σ H Q, t' σ H Q → t σ H Q) : PE X e t' := ⟨fun pins s σ H Q I q => p.run pins s σ H Q I (h _ _ _ q)⟩
theorem pt_imp {e : Expr} {t t' : TT} (p : PT X e t) (h : ∀ σ H Q, t' σ H Q → t σ H Q) : PT X e t' := ⟨fun pins s σ H Q I q => p.run pins s σ H Q I (h _ _ _ q)⟩
theorem pw_imp {e : Expr} {t t' : TT} (p : PW X e t) (h : ∀ σ H Q, t' σ H Q → t σ H Q) : PW X e t' := ⟨fun wh pins s σ H Q I q => p.run wh pins s σ H Q I (h _ _ _ q)⟩
theorem pa_imp {e : List Expr} {t t' : TA} (p : PA X e t) (h : ∀ σ H Q, t' σ H Q → t σ H Q) : PA X e t' := ⟨fun pos pins s σ H Q I q => p.run pos pins s σ H Q I (h _ _ _ q)⟩
theorem ps_imp {e : Stmt} {t t' : TS} (p : PS X e t) (h : ∀ D σ H, t' D σ H → t D σ H) : PS X e t' := ⟨fun pins s σ H D I q => p.run pins s σ H D I (h _ _ _ q)⟩
theorem pss_imp {e : List Stmt} {t t' : TS} (p : PSs X e t) (h : ∀ D σ H, t' D σ H → t D σ H) : PSs X e t' := ⟨fun pins s σ H D I q => p.run pins s σ H D I (h _ _ _ q)⟩
theorem pi_imp {tg e : Expr} {t t' : TI} (p : PI X tg e t) (h : ∀ σ H Q, t' σ H Q → t σ H Q) : PI X tg e t' := ⟨fun pins s σ H Q I q => p.run pins s σ H Q I (h _ _ _ q)⟩
theorem pg_imp {e : Expr} {t t' : TG} (p : PG X e t) (h : ∀ v σ H Q, t' v σ H Q → t v σ H Q) : PG X e t' := ⟨fun pins s σ H v u Q I r q => p.run pins s σ H v u Q I r (h _ _ _ _ q)⟩
theorem pgs_imp {e : List Expr} {t t' : TGs} (p : PGs X e t) (h : ∀ v σ H Q, t' v σ H Q → t v σ H Q) : PGs X e t' := ⟨fun pins s σ H v u Q I r q => p.run pins s σ H v u Q I r (h _ _ _ _ q)⟩

def okS (d : D) (h : Hs) : Option (R D) := match d with
  | .lm => none
  | d => some (.ok d h)
theorem okS_ok {d : D} {h : Hs} (nl : d ≠ .lm) : okS d h = some (.ok d h) := by
  cases d <;> first | rfl | exact absurd rfl nl
def mVar (i : Nat) : M D := fun ρ h => match ρ[i]? with
  | some (some d) => okS d h
  | _ => none
def mCon (d : D) : M D := mPure d
theorem e_var {i : Nat} {x : Str} {pos : Pos} (hN : X.N[i]? = some x) (hv : Vis X.env.scope x) (hd : (x == ("__debug__" : Str)) = false := by decide) (hcd : (x == ("__classdict__" : Str)) = false := by decide) : PE X (.Name x pos) (rd X W (mVar i)) := by
  refine pe_imp (pe_var hN hv hd hcd) fun σ H Q ⟨ρ, L, μ, h, rel, q⟩ => ?_
  unfold mVar at q
  cases e : ρ[i]? with
  | none => rw [e] at q; exact q.none
  | some o =>
    cases o with
    | none => rw [e] at q; exact q.none
    | some d =>
      rw [e] at q
      obtain ⟨y, e1, ry⟩ := rel.val i d e
      cases d <;> first | exact q.none | exact ⟨y, e1, q μ H .refl rel.hr y ry⟩
theorem rd_con {d : D} {v : V} (hv : ∀ μ H, RepV (ctX X) μ H d v) (q : rd X W (mCon d) σ H Q) : Q v H := by
  obtain ⟨ρ, L, μ, h, rel, q⟩ := rdG_pure q
  exact q v (hv _ _)
theorem e_int {i : Int} {j} {pos : Pos} : PE X (.Constant (.int i) j pos) (rd X W (mCon (.int i))) := pe_imp pe_int fun _ _ _ q => rd_con (d := .int i) (fun _ _ => rfl) q
theorem e_bl {b : Bool} {j} {pos : Pos} : PE X (.Constant (.bool b) j pos) (rd X W (mCon (.bl b))) := pe_imp pe_bl fun _ _ _ q => rd_con (d := .bl b) (fun _ _ => rfl) q
theorem e_non {j} {pos : Pos} : PE X (.Constant .none j pos) (rd X W (mCon .non)) := pe_imp pe_non fun _ _ _ q => rd_con (d := .non) (fun _ _ => rfl) q
theorem e_str {x : Str} {j} {pos : Pos} : PE X (.Constant (.str x) j pos) (rd X W (mCon (.str x))) := pe_imp pe_str fun _ _ _ q => rd_con (d := .str x) (fun _ _ => rfl) q
theorem e_ty {x : Str} {n : Ty} {pos : Pos} (hg : Gl X x) (hm : X.mg x = none) (hv : bootBuiltins x = some (.type n.name)) (hn : x ≠ "__name__" := by decide) (hd : (x == ("__debug__" : Str)) = false := by decide) : PE X (.Name x pos) (rd X W (mCon (.ty n))) :=
  pe_imp (pe_bltn (v := .ty n.name) hg hm hv rfl hn hd) fun _ _ _ q => rd_con (d := .ty n) (fun _ _ => rfl) q
theorem e_bin {op : Operator} {r : R2} {f : Hs → D → D → Option Nv} {a b : Expr} {ma mb : M D} {pos : Pos} (ho : OpR X (binaryOp op) r) (c : Cov2 (ctX X) r f) (ha : PE X a (rd X W ma)) (hb : PE X b (rd X W mb)) : PE X (.BinOp a op b pos) (rd X W (mOp2 f ma mb)) :=
  pe_imp (pe_op ho ha hb) fun _ _ _ q => rd_op2 c q
theorem e_cmp {op : CmpOp} {r : R2} {f : Hs → D → D → Option Nv} {a b : Expr} {ma mb : M D} {pos : Pos} (ho : OpR X (compareOp op) r) (c : Cov2 (ctX X) r f) (hm : behindInMarks op b = false) (ha : PE X a (rd X W ma)) (hb : PE X b (rd X W mb)) : PE X (.Compare a [op] [b] pos) (rd X W (mOp2 f ma mb)) :=
  pe_imp (pe_cmpR ho ha hb hm) fun _ _ _ q => rd_op2 c q
theorem e_ix {r : R2} {f : Hs → D → D → Option Nv} {a b : Expr} {ma mb : M D} {pos : Pos} (ho : IxR X r) (c : Cov2 (ctX X) r f) (ha : PE X a (rd X W ma)) (hb : PE X b (rd X W mb)) (hs : PlainIx b := by exact fun _ _ => rfl) : PE X (.Subscript a b pos) (rd X W (mOp2 f ma mb)) :=
  pe_imp (pe_ix ho ha hb hs) fun _ _ _ q => rd_op2 c q

/-! argument lists, displays -/
def mNil : M (List D) := mPure []
def mCons (a : M D) (r : M (List D)) : M (List D) := mBind a fun x => mBind r fun xs => mPure (x :: xs)
theorem a_nil : PA X [] (rdA X W mNil) := pa_imp pa_nil fun σ H Q q => let ⟨_, _, _, _, _, k⟩ := rdG_pure q; k [] rfl
theorem rd_cons {m : M D} {ms : M (List D)} {Q : List V → Hp → Prop} (q : rdA X W (mCons m ms) σ H Q) : rd X W m σ H fun x H1 => rdA X W ms σ H1 fun xs H2 => Q (x :: xs) H2 := by
  obtain ⟨ρ, L, μ, h, rel, q⟩ := q
  refine ⟨ρ, L, μ, h, rel, (q.bind rel).imp fun x h1 μ1 H1 g1 _ ⟨_, rel1, q1⟩ vx rx => ⟨ρ, L, μ1, h1, rel1, (q1.bind rel1).imp fun y h2 μ2 H2 g2 _ ⟨_, rel2, q2⟩ vy ry => ?_⟩⟩
  exact q2 μ2 H2 .refl rel2.hr (vx :: vy) ⟨vx, vy, rfl, rx.go rel1.hr g2, ry⟩
theorem a_cons {e : Expr} {es : List Expr} {m : M D} {ms : M (List D)} (ha : PE X e (rd X W m)) (hr : PA X es (rdA X W ms)) (hs : starEach (e :: es) X.env = (false, eval e X.env) :: starEach es X.env := by rfl) : PA X (e :: es) (rdA X W (mCons m ms)) :=
  pa_imp (pa_cons ha hr hs) fun σ H Q q => rd_cons q
theorem small6 {n : Nat} (h : n ≤ 1000000) : n ≤ sizeLine := by rw [sizeLine_eq]; omega
theorem small6' {n : Nat} (h : n < 1000000) : n < sizeLine := by rw [sizeLine_eq]; omega
theorem same_new {p : Addr} {o : HO} (h : H p = none) : Same H (upd H p o) ∧ ∀ a, upd H p o a = none → H a = none := by
  refine ⟨fun b x e => by rw [upd_ne (ne_of_none e h)]; exact e, fun a e => ?_⟩
  unfold upd at e
  split at e
  · cases e
  · exact e
theorem Want.old {C : Ct} {d : D} {x : V} (k : Want C μ H (.v d) Q) (r : RepV C μ H d x) : Q x H := k x H (fun _ _ e => e) (fun _ e => e) r
theorem Want.tup {C : Ct} {ds : List D} {vs : List V} (k : Want C μ H (.v (.tup ds)) Q) (r : RepL C μ H ds vs) : NewT H vs Q := fun p o hp hd => by
  obtain ⟨s, dm⟩ := same_new (o := .frz o (.tup vs)) hp
  exact k _ _ s dm ⟨p, vs, rfl, .inl ⟨o, upd_same, hd⟩, r.stay (Same.stay s)⟩
theorem stay_more {r : Mu} (s : Same H H') : Stay μ H (μ ++ r) H' := ⟨fun i a e => by rw [List.getElem?_append_left (List.getElem?_eq_some_iff.mp e).1]; exact e, fun a xs e => s _ _ e, fun a o u e => s _ _ e⟩
theorem Want.lst {C : Ct} {ds : List D} {vs : List V} {p : Addr} (k : Want C μ H (.n (.lst ds)) Q) (r : RepL C μ H ds vs) (hp : H p = none) : Q (.ref p) (upd H p (.lst vs)) := by
  obtain ⟨s, dm⟩ := same_new (o := .lst vs) hp
  exact k _ _ s dm ⟨p, rfl, hp, fun m => ⟨vs, upd_same, r.stay (stay_more s)⟩⟩
def mDisp (f : List D → Nv) (ms : M (List D)) : M D := mBind ms fun ds => fun _ h => if ds.length ≤ 1000000 then (f ds).lift h else none
theorem rd_disp {f : List D → Nv} {ms : M (List D)} {ts : List V → Hp → Prop} (q : rd X W (mDisp f ms) σ H Q)
    (k : ∀ ds vs μ1 H1, ds.length ≤ 1000000 → RepL (ctX X) μ1 H1 ds vs → Want (ctX X) μ1 H1 (f ds) Q → ts vs H1) : rdA X W ms σ H ts := by
  obtain ⟨ρ, L, μ, h, rel, q⟩ := q
  refine ⟨ρ, L, μ, h, rel, (q.bind rel).imp fun ds h1 μ1 H1 g1 _ ⟨_, rel1, q1⟩ vs rs => ?_⟩
  split at q1
  · rename_i hl
    obtain ⟨m, em, want⟩ := Sat.lift (n := some (f ds)) rel1.hr q1
    cases em
    exact k ds vs μ1 H1 hl rs want
  · exact q1.none
def mTup (ms : M (List D)) : M D := mDisp (fun ds => .v (.tup ds)) ms
def mLst (ms : M (List D)) : M D := mDisp (fun ds => .n (.lst ds)) ms
theorem e_tup {es : List Expr} {ms : M (List D)} {x1} {pos : Pos} (ha : PA X es (rdA X W ms)) : PE X (.Tuple es x1 pos) (rd X W (mTup ms)) :=
  pe_imp (pe_tupF ha) fun σ H Q q => rd_disp q fun ds vs μ1 H1 hl rl want => ⟨by rw [rl.length]; exact small6 hl, want.tup rl⟩
theorem e_lst {es : List Expr} {ms : M (List D)} {pos : Pos} (ha : PA X es (rdA X W ms)) : PE X (.List es pos) (rd X W (mLst ms)) :=
  pe_imp (pe_lst ha) fun σ H Q q => rd_disp q fun ds vs μ1 H1 hl rl want => ⟨by rw [rl.length]; exact small6 hl, fun p hp => want.lst rl hp⟩
end
end Rh

set_option Elab.async false
set_option linter.all false
set_option maxRecDepth 100000
set_option maxHeartbeats 2000000
set_option autoImplicit false
namespace Rh
open PySem PySem.Spec PyProof.Rows L2
variable [Tbs]

/-! ### boxes read -/
section
variable {C : Ct} {L : List Nat} {μ : Mu} {H : Hp} {h : Hs}
theorem HR.box (r : HR C L μ H h) {n : Nat} {x : V} (q : RepV C μ H (.box n) x) : ∃ a o, x = .ref a ∧ μ[n]? = some a ∧ h.get n = some o ∧ ObR C μ H a o := by
  obtain ⟨a, e, m⟩ := q
  obtain ⟨o, e1, e2⟩ := r.ob n a m
  exact ⟨a, o, e, m, e1, e2⟩
theorem HR.lst (r : HR C L μ H h) {n : Nat} {x : V} {ds : List D} (q : RepV C μ H (.box n) x) (e : h.get n = some (.lst ds)) : ∃ a vs, x = .ref a ∧ μ[n]? = some a ∧ H a = some (.lst vs) ∧ RepL C μ H ds vs := by
  obtain ⟨a, o, e1, m, e2, ob⟩ := r.box q
  rw [e] at e2; cases e2
  obtain ⟨vs, e3, rl⟩ := ob
  exact ⟨a, vs, e1, m, e3, rl⟩
theorem HR.dct (r : HR C L μ H h) {n : Nat} {x : V} {nks : List NestedKey} {ks vs : List D} (q : RepV C μ H (.box n) x) (e : h.get n = some (.dct nks ks vs)) :
    ∃ a es, x = .ref a ∧ μ[n]? = some a ∧ H a = some (DicO C.w a es) ∧ es.2.map (·.1) = nks ∧ keysD ks = some nks ∧ RepL C μ H ks (es.2.map (·.2.1)) ∧ RepL C μ H vs (es.2.map (·.2.2)) := by
  obtain ⟨a, o, e1, m, e2, ob⟩ := r.box q
  rw [e] at e2; cases e2
  obtain ⟨es, e3, k⟩ := ob
  exact ⟨a, es, e1, m, e3, k⟩
/-- a list's items, be it a box or the script -/
def lstD (h : Hs) : D → Option (List D)
  | .box n => match h.get n with
    | some (.lst ds) => some ds
    | _ => none
  | .scr ds => some ds
  | _ => none
theorem lstD_ok (r : HR C L μ H h) {d : D} {x : V} {ds : List D} (q : RepV C μ H d x) (e : lstD h d = some ds) : ∃ a vs, x = .ref a ∧ SqL C.K H a vs ∧ RepL C μ H ds vs := by
  unfold lstD at e
  split at e
  · rename_i n
    split at e
    · rename_i es e1
      cases e
      obtain ⟨a, vs, e2, _, e3, rl⟩ := r.lst q e1
      exact ⟨a, vs, e2, .inl (.inl e3), rl⟩
    · cases e
  · cases e
    obtain ⟨a, vs, e2, t, rl⟩ := (show RepV C μ H (.scr _) x from q)
    exact ⟨a, vs, e2, t.sqL, rl⟩
  · cases e
/-- what is a sequence -/
def seqD (h : Hs) (d : D) : Option (List D) := match d with
  | .tup ds => some ds
  | d => lstD h d
theorem seqD_ok (r : HR C L μ H h) {d : D} {x : V} {ds : List D} (q : RepV C μ H d x) (e : seqD h d = some ds) : ∃ p vs, x = .ref p ∧ (SqL C.K H p vs ∨ SqT C.K H p vs) ∧ RepL C μ H ds vs := by
  cases d with
  | tup es =>
    cases e
    obtain ⟨a, vs, rfl, t, q⟩ := (show RepV C μ H (.tup ds) x from q)
    exact ⟨a, vs, rfl, .inr t.sq, q⟩
  | _ => obtain ⟨a, vs, e1, e2, e3⟩ := lstD_ok r q e; exact ⟨a, vs, e1, .inl e2, e3⟩
end
/-! ### covers -/
section
variable {C : Ct} {L : List Nat}
theorem Cov2.or {r r' : R2} {f g : Hs → D → D → Option Nv} (c : Cov2 C r f) (c' : Cov2 C r' g) : Cov2 C (fun x y H Q => r x y H Q ∨ r' x y H Q) fun h d e => match f h d e with | some n => some n | none => g h d e := by
  intro H L μ h x y d e n Q hr r1 r2 hf want
  cases e1 : f h d e with
  | some m => simp only [e1] at hf; cases hf; exact .inl (c H L μ h x y d e _ Q hr r1 r2 e1 want)
  | none => simp only [e1] at hf; exact .inr (c' H L μ h x y d e _ Q hr r1 r2 hf want)
theorem CovA.or {r r' : List V → Hp → VK → Prop} {f g : Hs → List D → Option Nv} (c : CovA C r f) (c' : CovA C r' g) : CovA C (fun x H Q => r x H Q ∨ r' x H Q) fun h d => match f h d with | some n => some n | none => g h d := by
  intro H L μ h x d n Q hr r1 hf want
  cases e1 : f h d with
  | some m => simp only [e1] at hf; cases hf; exact .inl (c H L μ h x d _ Q hr r1 e1 want)
  | none => simp only [e1] at hf; exact .inr (c' H L μ h x d _ Q hr r1 hf want)
def flat0 : D → Option V
  | .non => some .non
  | .bl b => some (.bl b)
  | .int i => some (.int i)
  | .str x => some (.str x)
  | _ => none
theorem flat0_rep {μ : Mu} {H : Hp} {d : D} {v : V} (h : flat0 d = some v) : RepV C μ H d v := by
  cases d <;> simp only [flat0] at h <;> first | (cases h; done) | (cases h; rfl)
def dIntC (c : Int → Int → Bool) (g : Int → Int → D) (_ : Hs) (d e : D) : Option Nv := match d, e with
  | .int i, .int j => if c i j = true then some (.v (g i j)) else none
  | _, _ => none
theorem dIntC_some {c : Int → Int → Bool} {g : Int → Int → D} {h : Hs} {d e : D} {n : Nv} (q : dIntC c g h d e = some n) : ∃ i j, d = .int i ∧ e = .int j ∧ c i j = true ∧ n = .v (g i j) := by
  unfold dIntC at q
  split at q
  · split at q
    · exact ⟨_, _, rfl, rfl, by assumption, (Option.some.inj q).symm⟩
    · cases q
  · cases q
def dInt (g : Int → Int → D) : Hs → D → D → Option Nv := dIntC (fun _ _ => true) g
theorem cov_rI0 {gv : Int → Int → V} {g : Int → Int → D} (hg : ∀ i j, flat0 (g i j) = some (gv i j)) : Cov2 C (rI0 gv) (dInt g) := by
  intro H L μ h x y d e n Q hr r1 r2 hf want
  obtain ⟨i, j, rfl, rfl, _, rfl⟩ := dIntC_some hf
  exact ⟨i, j, r1, r2, want.old (flat0_rep (hg i j))⟩
theorem cov_rI {P : Int → Int → Prop} {c : Int → Int → Bool} {gv : Int → Int → V} {g : Int → Int → D} (hc : ∀ i j, c i j = true → P i j) (hg : ∀ i j, flat0 (g i j) = some (gv i j)) : Cov2 C (rI P gv) (dIntC c g) := by
  intro H L μ h x y d e n Q hr r1 r2 hf want
  obtain ⟨i, j, rfl, rfl, k, rfl⟩ := dIntC_some hf
  exact ⟨i, j, r1, r2, hc i j k, want.old (flat0_rep (hg i j))⟩
/-! tuples, lists -/
def dCatT (_ : Hs) (d e : D) : Option Nv := match d, e with
  | .tup a, .tup b => if a.length + b.length ≤ 1000000 then some (.v (.tup (a ++ b))) else none
  | _, _ => none
def dCatL (h : Hs) (d e : D) : Option Nv := match d, e with
  | .box n, .box m => (match h.get n, h.get m with
    | some (.lst a), some (.lst b) => if a.length + b.length ≤ 1000000 then some (.n (.lst (a ++ b))) else none
    | _, _ => none)
  | _, _ => none
theorem cov_catT : Cov2 C (rCatF C.K) dCatT := by
  intro H L μ h x y d e n Q hr r1 r2 hf want
  unfold dCatT at hf
  split at hf
  · rename_i a b
    split at hf
    · rename_i hl
      cases hf
      obtain ⟨p, vs, rfl, t1, q1⟩ := (show RepV C μ H (.tup a) x from r1)
      obtain ⟨p2, us, rfl, t2, q2⟩ := (show RepV C μ H (.tup b) y from r2)
      have l1 := q1.length
      have l2 := q2.length
      refine ⟨p, p2, vs, us, rfl, rfl, t1.sq, t2.sq, small6 (by omega), fun h => ?_, fun _ h => ?_, fun _ _ => want.tup (q1.append q2)⟩
      · subst h
        have : a = [] := List.eq_nil_of_length_eq_zero l1.symm
        subst this
        exact want.old ⟨p2, us, rfl, t2, q2⟩
      · subst h
        have : b = [] := List.eq_nil_of_length_eq_zero l2.symm
        subst this
        rw [List.append_nil] at want
        exact want.old ⟨p, vs, rfl, t1, q1⟩
    · cases hf
  · cases hf
theorem cov_catL : Cov2 C rCat dCatL := by
  intro H L μ h x y d e n Q hr r1 r2 hf want
  unfold dCatL at hf
  split at hf
  · split at hf
    · rename_i a b e1 e2
      split at hf
      · rename_i hl
        cases hf
        obtain ⟨p, vs, rfl, _, t1, q1⟩ := hr.lst r1 e1
        obtain ⟨p2, us, rfl, _, t2, q2⟩ := hr.lst r2 e2
        have l1 := q1.length
        have l2 := q2.length
        exact ⟨p, p2, vs, us, rfl, rfl, t1, t2, small6 (by omega), fun q hq => want.lst (q1.append q2) hq⟩
      · cases hf
    · cases hf
  · cases hf
theorem RepL.rep {μ : Mu} {H : Hp} {ds : List D} {vs : List V} (h : RepL C μ H ds vs) : ∀ k : Nat, RepL C μ H (List.replicate k ds).flatten (List.replicate k vs).flatten
  | 0 => rfl
  | k + 1 => by
    rw [List.replicate_succ, List.replicate_succ, List.flatten_cons, List.flatten_cons]
    exact h.append (RepL.rep h k)
def dRepL (h : Hs) (d e : D) : Option Nv := match d, e with
  | .box n, .int k => (match h.get n with
    | some (.lst a) => if -1000000 ≤ k ∧ k ≤ 1000000 ∧ a.length * k.toNat ≤ 1000000 then some (.n (.lst (List.replicate k.toNat a).flatten)) else none
    | _ => none)
  | _, _ => none
theorem cov_repL : Cov2 C rRep dRepL := by
  intro H L μ h x y d e n Q hr r1 r2 hf want
  unfold dRepL at hf
  split at hf
  · split at hf
    · rename_i a e1
      split at hf
      · rename_i hl
        cases hf
        obtain ⟨p, vs, rfl, _, t1, q1⟩ := hr.lst r1 e1
        have l1 := q1.length
        exact ⟨p, _, vs, rfl, r2, t1, by omega, by omega, by rw [l1]; exact small6 hl.2.2, fun q hq => want.lst (q1.rep _) hq⟩
      · cases hf
    · cases hf
  · cases hf
/-! items -/
theorem RepL.atI {μ : Mu} {H : Hp} {ds : List D} {vs : List V} {i : Int} {d : D} (q : RepL C μ H ds vs) (e : L2.atI ds i = some d) : ∃ v, L2.atI vs i = some v ∧ RepV C μ H d v := by
  unfold L2.atI at e ⊢
  rw [q.length]
  cases e2 : ixN ds.length i with
  | none => rw [e2] at e; cases e
  | some j => rw [e2] at e; exact q.get e
def dIxT (_ : Hs) (d e : D) : Option Nv := match d, e with
  | .tup a, .int i => (atI a i).map .v
  | _, _ => none
def dIxL (h : Hs) (d e : D) : Option Nv := match lstD h d, e with
  | some a, .int i => (atI a i).map .v
  | _, _ => none
theorem cov_ixT : Cov2 C (rIxT C.K) dIxT := by
  intro H L μ h x y d e n Q hr r1 r2 hf want
  unfold dIxT at hf
  split at hf
  · rename_i a i
    obtain ⟨c, e1, rfl⟩ := Option.map_eq_some_iff.mp hf
    obtain ⟨p, vs, rfl, t1, q1⟩ := (show RepV C μ H (.tup a) x from r1)
    obtain ⟨v, e2, rv⟩ := q1.atI e1
    exact ⟨p, vs, i, v, rfl, r2, t1.sq, e2, want.old rv⟩
  · cases hf
theorem cov_ixL : Cov2 C (rIxL C.K) dIxL := by
  intro H L μ h x y d e n Q hr r1 r2 hf want
  unfold dIxL at hf
  split at hf
  · rename_i a i ea
    obtain ⟨c, e1, rfl⟩ := Option.map_eq_some_iff.mp hf
    obtain ⟨p, vs, rfl, t1, q1⟩ := lstD_ok hr r1 ea
    obtain ⟨v, e2, rv⟩ := q1.atI e1
    exact ⟨p, vs, i, v, rfl, r2, t1, e2, want.old rv⟩
  · cases hf
/-! == -/
def mapO {α β : Type} (f : α → Option β) : List α → Option (List β)
  | [] => some []
  | d :: ds => match f d with
    | some p => match mapO f ds with
      | some ps => some (p :: ps)
      | none => none
    | none => none
def toPy (h : Hs) : Nat → D → Option PyData
  | 0, _ => none
  | n + 1, d => match d with
    | .non => some .none
    | .bl b => some (.bool b)
    | .int i => some (.int i)
    | .str x => some (.str x)
    | .tup ds => match mapO (toPy h n) ds with
      | some ps => some (.tuple ps)
      | none => none
    | .box i => match h.get i with
      | some (.lst ds) => match mapO (toPy h n) ds with
        | some ps => some (.list ps)
        | none => none
      | _ => none
    | _ => none
theorem mapO_dp {μ : Mu} {H : Hp} {f : D → Option PyData} (hf : ∀ d x p, RepV C μ H d x → f d = some p → Dp C.K H x p) : ∀ {ds : List D} {vs : List V} {ps : List PyData}, RepL C μ H ds vs → mapO f ds = some ps → DpAll C.K H vs ps
  | [], _, _, r, h => by cases h; rw [show _ = [] from r]; exact .nil
  | d :: ds, _, _, ⟨v, rr, e, h1, h2⟩, h => by
    subst e
    unfold mapO at h
    cases e1 : f d with
    | none => rw [e1] at h; cases h
    | some p =>
      cases e2 : mapO f ds with
      | none => simp only [e1, e2] at h; cases h
      | some ps =>
        simp only [e1, e2] at h; cases h
        exact .cons (hf d v p h1 e1) (mapO_dp hf h2 e2)
theorem toPy_dp {μ : Mu} {H : Hp} {h : Hs} (hr : HR C L μ H h) : ∀ (n : Nat) (d : D) (x : V) (p : PyData), RepV C μ H d x → toPy h n d = some p → Dp C.K H x p
  | 0, _, _, _, _, e => by cases e
  | n + 1, d, x, p, r, e => by
    unfold toPy at e
    cases d with
    | non => cases e; rw [show _ = V.non from r]; exact .non
    | bl b => cases e; rw [show _ = V.bl b from r]; exact .bl b
    | int i => cases e; rw [show _ = V.int i from r]; exact .int i
    | str y => cases e; rw [show _ = V.str y from r]; exact .str y
    | tup ds =>
      obtain ⟨a, vs, rfl, t, q⟩ := r
      dsimp only at e
      cases e1 : mapO (toPy h n) ds with
      | none => rw [e1] at e; cases e
      | some ps => rw [e1] at e; cases e; exact .tup t.sq (mapO_dp (toPy_dp hr n) q e1)
    | box i =>
      dsimp only at e
      split at e
      · rename_i ds e0
        obtain ⟨a, vs, rfl, _, t, q⟩ := hr.lst r e0
        cases e1 : mapO (toPy h n) ds with
        | none => rw [e1] at e; cases e
        | some ps => rw [e1] at e; cases e; exact .lst (.inl (.inl t)) (mapO_dp (toPy_dp hr n) q e1)
      · cases e
    | ty n => cases e
    | scr ds => cases e
    | gl x => cases e
    | lm => cases e
def dEq (neg : Bool) (h : Hs) (d e : D) : Option Nv := match toPy h 40 d, toPy h 40 e with
  | some p, some q => if SeqAt.shaped p = true ∧ SeqAt.shaped q = true then some (.v (.bl (if neg = true then !PyData.eqv p q else PyData.eqv p q))) else none
  | _, _ => none
theorem dEq_some {neg : Bool} {h : Hs} {d e : D} {n : Nv} (k : dEq neg h d e = some n) : ∃ p q, toPy h 40 d = some p ∧ toPy h 40 e = some q ∧ SeqAt.shaped p = true ∧ SeqAt.shaped q = true ∧ n = .v (.bl (if neg = true then !PyData.eqv p q else PyData.eqv p q)) := by
  unfold dEq at k
  split at k
  · split at k
    · rename_i hs
      exact ⟨_, _, by assumption, by assumption, hs.1, hs.2, (Option.some.inj k).symm⟩
    · cases k
  · cases k
theorem cov_eq : Cov2 C (rEqD C.K) (dEq false) := by
  intro H L μ h x y d e n Q hr r1 r2 hf want
  obtain ⟨p, q, e1, e2, s1, s2, rfl⟩ := dEq_some hf
  exact ⟨p, q, toPy_dp hr _ _ _ _ r1 e1, toPy_dp hr _ _ _ _ r2 e2, s1, s2, want.old rfl⟩
theorem cov_ne : Cov2 C (rNeD C.K) (dEq true) := by
  intro H L μ h x y d e n Q hr r1 r2 hf want
  obtain ⟨p, q, e1, e2, s1, s2, rfl⟩ := dEq_some hf
  exact ⟨p, q, toPy_dp hr _ _ _ _ r1 e1, toPy_dp hr _ _ _ _ r2 e2, s1, s2, want.old rfl⟩
abbrev rIs0 : R2 := fun x y H Q => y = .non ∧ Q (.bl (decide (x = .non))) H
def isNon : D → Bool
  | .non => true
  | _ => false
theorem isNon_ok {μ : Mu} {H : Hp} {d : D} {x : V} (r : RepV C μ H d x) : decide (x = .non) = isNon d := by
  cases d with
  | non => cases (show x = .non from r); rfl
  | bl b => cases (show x = .bl b from r); rfl
  | int i => cases (show x = .int i from r); rfl
  | str i => cases (show x = .str i from r); rfl
  | ty i => cases (show x = .ty i.name from r); rfl
  | gl i => obtain ⟨a, rfl, _⟩ := r; rfl
  | tup ds => obtain ⟨a, vs, rfl, _⟩ := r; rfl
  | scr ds => obtain ⟨a, vs, rfl, _⟩ := r; rfl
  | box n => obtain ⟨a, rfl, _⟩ := r; rfl
  | lm => exact r.elim
def dIs (neg : Bool) (_ : Hs) (d e : D) : Option Nv := match e with
  | .non => some (.v (.bl (if neg = true then !isNon d else isNon d)))
  | _ => none
theorem cov_is : Cov2 C rIs0 (dIs false) := by
  intro H L μ h x y d e n Q hr r1 r2 hf want
  unfold dIs at hf
  split at hf
  · cases hf
    refine ⟨r2, ?_⟩
    rw [isNon_ok r1]
    exact want.old rfl
  · cases hf
/-! ### built-ins by values -/
theorem RepL.one {μ : Mu} {H : Hp} {d : D} {xs : List V} (h : RepL C μ H [d] xs) : ∃ x, xs = [x] ∧ RepV C μ H d x := by
  obtain ⟨x, r, rfl, h1, h2⟩ := h
  rw [show r = [] from h2]
  exact ⟨x, rfl, h1⟩
theorem RepL.two {μ : Mu} {H : Hp} {d e : D} {xs : List V} (h : RepL C μ H [d, e] xs) : ∃ x y, xs = [x, y] ∧ RepV C μ H d x ∧ RepV C μ H e y := by
  obtain ⟨x, r, rfl, h1, h2⟩ := h
  obtain ⟨y, rfl, h3⟩ := RepL.one h2
  exact ⟨x, y, rfl, h1, h3⟩
def dLen (h : Hs) : List D → Option Nv
  | [d] => (seqD h d).map fun ds => .v (.int ds.length)
  | _ => none
theorem cov_len : CovA C (fun xs H Q => ∃ p ys, xs = [.ref p] ∧ (SqL C.K H p ys ∨ SqT C.K H p ys) ∧ Q (.int ys.length) H) dLen := by
  intro H L μ h xs ds n Q hr r1 hf want
  unfold dLen at hf
  split at hf
  · obtain ⟨es, e1, rfl⟩ := Option.map_eq_some_iff.mp hf
    obtain ⟨x, rfl, q⟩ := r1.one
    obtain ⟨p, vs, rfl, t, q⟩ := seqD_ok hr q e1
    refine ⟨p, vs, rfl, t, ?_⟩
    rw [q.length]
    exact want.old rfl
  · cases hf
def dList (h : Hs) : List D → Option Nv
  | [d] => (seqD h d).map fun ds => .n (.lst ds)
  | _ => none
theorem cov_list : CovA C (fun xs H Q => ∃ p ys, xs = [.ref p] ∧ (SqL C.K H p ys ∨ SqT C.K H p ys) ∧ ∀ l, H l = none → Q (.ref l) (upd H l (.lst ys))) dList := by
  intro H L μ h xs ds n Q hr r1 hf want
  unfold dList at hf
  split at hf
  · obtain ⟨es, e1, rfl⟩ := Option.map_eq_some_iff.mp hf
    obtain ⟨x, rfl, q⟩ := r1.one
    obtain ⟨p, vs, rfl, t, q⟩ := seqD_ok hr q e1
    exact ⟨p, vs, rfl, t, fun l hl => want.lst q hl⟩
  · cases hf
def dTuple (h : Hs) : List D → Option Nv
  | [d] => (seqD h d).map fun ds => .v (.tup ds)
  | _ => none
theorem cov_tuple : CovA C (fun xs H Q => ∃ p ys, xs = [.ref p] ∧ ((SqL C.K H p ys ∧ NewT H ys Q) ∨ (SqT C.K H p ys ∧ Q (.ref p) H))) dTuple := by
  intro H L μ h xs ds n Q hr r1 hf want
  unfold dTuple at hf
  split at hf
  · rename_i d
    obtain ⟨es, e1, rfl⟩ := Option.map_eq_some_iff.mp hf
    obtain ⟨x, rfl, q⟩ := r1.one
    cases d with
    | tup ds =>
      obtain ⟨a, vs, rfl, t, q⟩ := (show RepV C μ H (.tup ds) x from q)
      cases e1
      exact ⟨a, vs, rfl, .inr ⟨t.sq, want.old ⟨a, vs, rfl, t, q⟩⟩⟩
    | _ => obtain ⟨a, vs, rfl, t, q⟩ := lstD_ok hr q e1; exact ⟨a, vs, rfl, .inl ⟨t, want.tup q⟩⟩
  · cases hf
def dInt1 (_ : Hs) : List D → Option Nv
  | [.int i] => some (.v (.int i))
  | [.bl b] => some (.v (.int (if b then 1 else 0)))
  | _ => none
theorem cov_int : CovA C (fun xs H Q => (∃ i, xs = [.int i] ∧ Q (.int i) H) ∨ ∃ k, xs = [.bl k] ∧ Q (.int (if k then 1 else 0)) H) dInt1 := by
  intro H L μ h xs ds n Q hr r1 hf want
  unfold dInt1 at hf
  split at hf
  · cases hf
    obtain ⟨x, rfl, q⟩ := r1.one
    cases (show x = V.int _ from q)
    exact .inl ⟨_, rfl, want.old rfl⟩
  · cases hf
    obtain ⟨x, rfl, q⟩ := r1.one
    cases (show x = V.bl _ from q)
    exact .inr ⟨_, rfl, want.old rfl⟩
  · cases hf
def dAbs (_ : Hs) : List D → Option Nv
  | [.int i] => some (.v (.int (if i < 0 then -i else i)))
  | _ => none
theorem cov_abs : CovA C (fun xs H Q => ∃ i, xs = [.int i] ∧ Q (.int (if i < 0 then -i else i)) H) dAbs := by
  intro H L μ h xs ds n Q hr r1 hf want
  unfold dAbs at hf
  split at hf
  · cases hf
    obtain ⟨x, rfl, q⟩ := r1.one
    cases (show x = V.int _ from q)
    exact ⟨_, rfl, want.old rfl⟩
  · cases hf
def boolsD : List D → Option (List Bool)
  | [] => some []
  | .bl b :: ds => (boolsD ds).map (b :: ·)
  | _ => none
theorem boolsD_ok {μ : Mu} {H : Hp} : ∀ {ds : List D} {bs : List Bool} {vs : List V}, RepL C μ H ds vs → boolsD ds = some bs → vs = bs.map V.bl
  | [], _, _, h, e => by cases e; exact h
  | d :: ds, bs, _, ⟨v, r, rfl, h1, h2⟩, e => by
    cases d with
    | bl b =>
      obtain ⟨cs, e1, rfl⟩ := Option.map_eq_some_iff.mp (show (boolsD ds).map (b :: ·) = some bs from e)
      rw [boolsD_ok h2 e1, show v = V.bl b from h1]
      rfl
    | _ => cases e
def boxBs (h : Hs) : List D → Option (List Bool)
  | [.box n] => match h.get n with
    | some (.lst ds) => boolsD ds
    | _ => none
  | _ => none
theorem boxBs_ok {μ : Mu} {H : Hp} {h : Hs} (hr : HR C L μ H h) {ds : List D} {xs : List V} {bs : List Bool} (r : RepL C μ H ds xs) (e : boxBs h ds = some bs) : ∃ a, xs = [.ref a] ∧ SqL C.K H a (bs.map V.bl) := by
  unfold boxBs at e
  split at e
  · split at e
    · rename_i e1
      obtain ⟨x, rfl, q⟩ := r.one
      obtain ⟨a, vs, rfl, _, t, q⟩ := hr.lst q e1
      rw [boolsD_ok q e] at t
      exact ⟨a, rfl, .inl (.inl t)⟩
    · cases e
  · cases e
def dAll (h : Hs) (ds : List D) : Option Nv := (boxBs h ds).map fun bs => .v (.bl (bs.all id))
theorem cov_all : CovA C (rAll C.K) dAll := by
  intro H L μ h xs ds n Q hr r1 hf want
  obtain ⟨bs, e1, rfl⟩ := Option.map_eq_some_iff.mp hf
  obtain ⟨a, rfl, t⟩ := boxBs_ok hr r1 e1
  exact ⟨a, bs, rfl, t, want.old rfl⟩
/-! isinstance -/
def tyD (h : Hs) : D → Option Ty
  | .non => some .none
  | .bl _ => some .bool
  | .int _ => some .int
  | .str _ => some .str
  | .tup _ => some .tuple
  | .box n => match h.get n with
    | some (.lst _) => some .list
    | _ => none
  | _ => none
theorem tyD_ok {μ : Mu} {H : Hp} {h : Hs} (hr : HR C L μ H h) {d : D} {t : Ty} {x : V} (q : RepV C μ H d x) (e : tyD h d = some t) : TyX C.K H x (.type t.name) := by
  cases d with
  | non => cases e; rw [show x = V.non from q]; exact .base .non
  | bl b => cases e; rw [show x = V.bl b from q]; exact .base (.bl b)
  | int b => cases e; rw [show x = V.int b from q]; exact .base (.int b)
  | str b => cases e; rw [show x = V.str b from q]; exact .base (.str b)
  | tup ds =>
    cases e
    obtain ⟨a, vs, rfl, t, q⟩ := q
    rcases t with ⟨o, t, _⟩ | ⟨o, its, n, t, c, _⟩
    · exact .fTuple t
    · exact .kTuple t c
  | box n =>
    unfold tyD at e
    dsimp only at e
    split at e
    · rename_i e1
      cases e
      obtain ⟨a, vs, rfl, _, t, q⟩ := hr.lst q e1
      exact .base (.lst t)
    · cases e
  | _ => cases e
def subTy (a b : Ty) : Bool := decide (a = b) || (decide (a = .bool) && decide (b = .int))
theorem subTy_kit (a b : Ty) (hb : b ≠ .none) : kitB a.name b.name = some (subTy a b) := by
  cases b <;> first | exact absurd rfl hb | (cases a <;> decide +kernel)
def tysD : List D → Option (List Ty)
  | [] => some []
  | .ty t :: ds => if t = .none then none else (tysD ds).map (t :: ·)
  | _ => none
theorem tysD_ok {μ : Mu} {H : Hp} : ∀ {ds : List D} {ts : List Ty} {vs : List V}, RepL C μ H ds vs → tysD ds = some ts → Paired ClsV vs (ts.map fun t => Value.type t.name) ∧ ∀ t ∈ ts, t ≠ Ty.none
  | [], _, _, h, e => by cases e; rw [show _ = [] from h]; exact ⟨.nil, fun _ h => nomatch h⟩
  | d :: ds, ts, _, ⟨v, r, rfl, h1, h2⟩, e => by
    cases d with
    | ty t =>
      have e : (if t = Ty.none then none else (tysD ds).map (t :: ·)) = some ts := e
      split at e
      · cases e
      · rename_i hn
        obtain ⟨cs, e1, rfl⟩ := Option.map_eq_some_iff.mp e
        obtain ⟨p1, p2⟩ := tysD_ok h2 e1
        rw [show v = V.ty t.name from h1]
        exact ⟨.cons (.ty _) p1, fun t' ht => (List.mem_cons.mp ht).elim (fun q => by rw [q]; exact hn) (p2 t')⟩
    | _ => cases e
theorem kitAny_tys {K : PySem.W.Frag} {t : Ty} : ∀ {ts : List Ty}, (∀ b ∈ ts, b ≠ Ty.none) → PySem.W.kitAny K (.type t.name) (ts.map fun t => Value.type t.name) = some (ts.any (subTy t))
  | [], _ => rfl
  | b :: ts, h => by
    have ih := kitAny_tys (K := K) (t := t) (ts := ts) fun c hc => h c (List.mem_cons_of_mem _ hc)
    have k1 : PySem.W.kitOne K (.type t.name) (.type b.name) = some (subTy t b) := kit_ty (subTy_kit t b (h b List.mem_cons_self))
    rw [List.map_cons, List.any_cons]
    exact kitAny_cons k1 (fun e => by rw [e, Bool.false_or]; exact ih) fun e => by rw [e, Bool.true_or]
def dIsi (h : Hs) : List D → Option Nv
  | [d, .ty t] => if t = .none then none else (tyD h d).map fun a => .v (.bl (subTy a t))
  | [d, .tup ts] => match tyD h d, tysD ts with
    | some a, some ts => some (.v (.bl (ts.any (subTy a))))
    | _, _ => none
  | _ => none
theorem cov_isi : CovA C (fun xs H Q => rIsi C.K xs H Q ∨ (rIsiF C.K xs H Q ∨ rIsiK C.K xs H Q)) dIsi := by
  intro H L μ h xs ds n Q hr r1 hf want
  unfold dIsi at hf
  split at hf
  · split at hf
    · cases hf
    · rename_i hn
      obtain ⟨a, e1, rfl⟩ := Option.map_eq_some_iff.mp hf
      obtain ⟨x, y, rfl, h1, h2⟩ := r1.two
      cases (show y = V.ty _ from h2)
      exact .inl ⟨x, _, _, _, _, rfl, .ty _, tyD_ok hr h1 e1, kit_ty (subTy_kit a _ hn), want.old rfl⟩
  · split at hf
    · rename_i e1 e2
      cases hf
      obtain ⟨x, y, rfl, h1, h2⟩ := r1.two
      obtain ⟨p, vs, rfl, t, q⟩ := (show RepV C μ H (.tup _) y from h2)
      obtain ⟨q1, q2⟩ := tysD_ok q e2
      rcases t with ⟨o, t, _⟩ | ⟨⟨oc, od, dt, sl⟩, its, n, t, c, _, hd, _, hv⟩
      · exact .inr (.inl ⟨x, p, vs, _, _, _, _, rfl, t, q1, tyD_ok hr h1 e1, kitAny_tys q2, want.old rfl⟩)
      · simp only at c hd
        subst c hd
        have e3 := ClsV.all q1 hv
        refine .inr (.inr ⟨x, p, od, its.toList, n, sl, _, _, rfl, ?_, tyD_ok hr h1 e1, ?_, want.old rfl⟩)
        · simpa using t
        · rw [e3]; exact kitAny_tys q2
    · cases hf
  · cases hf
end
end Rh

set_option Elab.async false
set_option linter.all false
set_option maxRecDepth 100000
set_option autoImplicit false
namespace Rh
open PySem PySem.Spec PyProof.Rows L2
variable [Tbs]

/-! ### tests -/
def truthD (h : Hs) : D → Option Bool
  | .non => some false
  | .bl b => some b
  | .int i => some (i != 0)
  | .tup ds => some (!ds.isEmpty)
  | .scr ds => some (!ds.isEmpty)
  | .box n => match h.get n with
    | some (.lst ds) => some (!ds.isEmpty)
    | _ => none
  | _ => none
def mTruth (m : M D) : M Bool := mBind m fun d => fun _ h => match truthD h d with
  | some k => some (.ok k h)
  | none => none
/-- of an expression whose value is a bool -/
def mB (m : M D) : M Bool := mBind m fun d => fun _ h => match d with
  | .bl k => some (.ok k h)
  | _ => none
section
variable {X : Cx} {W : WX} {L : List Nat} {ρ : En} {σ : L2.St} {H H' H1 H2 : Hp} {μ μ' μ1 μ2 : Mu} {h h' h1 h2 : Hs} {Q : VK} {QB : Bool → Hp → Prop}
theorem RepL.isEmpty {C : Ct} {ds : List D} {vs : List V} (h : RepL C μ H ds vs) : (!ds.isEmpty) = !vs.isEmpty := by
  cases ds with
  | nil => rw [show vs = [] from h]; rfl
  | cons d ds => obtain ⟨v, r, rfl, _⟩ := h; rfl
theorem truthD_ok {C : Ct} (hr : HR C L μ H h) {d : D} {x : V} {k : Bool} (q : RepV C μ H d x) (e : truthD h d = some k) : TruV C.K x H k := by
  cases d with
  | non => cases e; rw [show x = V.non from q]; exact rfl
  | bl b => have q : x = V.bl b := q; cases e; rw [q]; exact rfl
  | int i => cases e; rw [show x = V.int i from q]; exact rfl
  | tup ds =>
    cases e
    obtain ⟨a, vs, rfl, t, q⟩ := q
    exact .inr (.inl ⟨vs, t.sq, q.isEmpty⟩)
  | scr ds =>
    cases e
    obtain ⟨a, vs, rfl, t, q⟩ := lstD_ok hr (d := .scr ds) q rfl
    exact .inl ⟨vs, t, q.isEmpty⟩
  | box n =>
    unfold truthD at e
    dsimp only at e
    split at e
    · rename_i e1
      cases e
      obtain ⟨a, vs, rfl, _, t, q⟩ := hr.lst q e1
      exact .inl ⟨vs, .inl (.inl t), q.isEmpty⟩
    · cases e
  | _ => cases e
theorem rd_truth {m : M D} (q : rdT X W (mTruth m) σ H QB) : rd X W m σ H fun x H' => ∃ k, TruV X.K x H' k ∧ QB k H' := by
  refine rdG_imp (rdG_bind q) fun ρ L d h1 μ1 H1 ⟨rel1, q1⟩ x rx => ?_
  cases e2 : truthD h1 d with
  | none => simp only [e2] at q1; exact q1.none
  | some k =>
    simp only [e2] at q1
    exact ⟨k, truthD_ok rel1.hr rx e2, q1 μ1 H1 .refl rel1.hr⟩
theorem rd_mB {m : M D} (q : rdT X W (mB m) σ H QB) : rd X W m σ H fun x H' => ∃ k, x = .bl k ∧ QB k H' := by
  refine rdG_imp (rdG_bind q) fun ρ L d h1 μ1 H1 ⟨rel1, q1⟩ x rx => ?_
  cases d with
  | bl k => exact ⟨k, rx, q1 μ1 H1 .refl rel1.hr⟩
  | _ => exact q1.none
theorem t_val {e : Expr} {m : M D} (ha : PE X e (rd X W m)) (he : ∀ whole, isTrue e X.env whole = (do let v ← whole; standAt e.pos; holding [v] (truthy v)) := by intro _; rfl) : PT X e (rdT X W (mTruth m)) :=
  pt_imp (pt_truth ha he) fun _ _ _ h => rd_truth h
theorem t_cmp {op : CmpOp} {r : R2} {f : Hs → D → D → Option Nv} {a b : Expr} {ma mb : M D} {pos : Pos} (ho : OpR X (compareOp op) r) (c : Cov2 (ctX X) r f) (hm : behindInMarks op b = false) (ha : PE X a (rd X W ma)) (hb : PE X b (rd X W mb)) : PT X (.Compare a [op] [b] pos) (rdT X W (mB (mOp2 f ma mb))) :=
  pt_imp (pt_cmpR ho ha hb hm) fun _ _ _ h => rd_op2 c (rd_mB h)
def mOr (a b : M Bool) : M Bool := mBind a fun c => if c = true then mPure true else b
def mNot (a : M Bool) : M Bool := mBind a fun c => mPure (!c)
theorem tw_or1 {a : Expr} {ma : M Bool} {pos : Pos} (ha : PT X a (rdT X W ma)) : PW X (.BoolOp .Or [a] pos) (rdT X W ma) := pw_or1 ha
theorem tw_or {a b : Expr} {rest : List Expr} {ma mb : M Bool} {pos : Pos} (ha : PT X a (rdT X W ma)) (hb : PW X (.BoolOp .Or (b :: rest) pos) (rdT X W mb)) : PW X (.BoolOp .Or (a :: b :: rest) pos) (rdT X W (mOr ma mb)) := by
  refine pw_imp (pw_or ha hb) fun σ H Q q => rdG_imp (rdG_bind q) fun ρ L c h1 μ1 H1 ⟨rel1, q1⟩ => ?_
  cases c with
  | false => exact ⟨ρ, L, μ1, h1, rel1, q1⟩
  | true => exact q1 μ1 H1 .refl rel1.hr
theorem t_not {a : Expr} {ma : M Bool} {pos : Pos} (ha : PT X a (rdT X W ma)) : PT X (.UnaryOp .Not a pos) (rdT X W (mNot ma)) :=
  pt_imp (pt_not ha) fun σ H Q q => rdG_imp (rdG_bind q) fun ρ L c h1 μ1 H1 ⟨rel1, q1⟩ => q1 μ1 H1 .refl rel1.hr
theorem t_pw {e : Expr} {t : TT} (h : PW X e t) : PT X e t := ⟨fun pins s σ H Q I q => h.run _ pins s σ H Q I q⟩
/-! as values -/
def mOrV (a b : M D) : M D := mBind a fun x => fun ρ h => match truthD h x with
  | some true => some (.ok x h)
  | some false => b ρ h
  | none => none
def mAndV (a b : M D) : M D := mBind a fun x => fun ρ h => match truthD h x with
  | some true => b ρ h
  | some false => some (.ok x h)
  | none => none
def mNotV (a : M D) : M D := mBind a fun x => fun _ h => match truthD h x with
  | some k => some (.ok (.bl (!k)) h)
  | none => none
theorem e_or {a b : Expr} {rest : List Expr} {ma mb : M D} {pos : Pos} (ha : PE X a (rd X W ma)) (hb : PE X (.BoolOp .Or (b :: rest) pos) (rd X W mb)) : PE X (.BoolOp .Or (a :: b :: rest) pos) (rd X W (mOrV ma mb)) := by
  refine pe_imp (pe_orT ha hb) fun σ H Q q => rdG_imp (rdG_bind q) fun ρ L x h1 μ1 H1 ⟨rel1, q1⟩ vx rx => ?_
  cases e2 : truthD h1 x with
  | none => simp only [e2] at q1; exact q1.none
  | some k =>
    refine ⟨k, truthD_ok rel1.hr rx e2, ?_⟩
    cases k with
    | true => simp only [e2] at q1; exact q1 μ1 H1 .refl rel1.hr vx rx
    | false => simp only [e2] at q1; exact ⟨ρ, L, μ1, h1, rel1, q1⟩
theorem e_and {a b : Expr} {rest : List Expr} {ma mb : M D} {pos : Pos} (ha : PE X a (rd X W ma)) (hb : PE X (.BoolOp .And (b :: rest) pos) (rd X W mb)) : PE X (.BoolOp .And (a :: b :: rest) pos) (rd X W (mAndV ma mb)) := by
  refine pe_imp (pe_andT ha hb) fun σ H Q q => rdG_imp (rdG_bind q) fun ρ L x h1 μ1 H1 ⟨rel1, q1⟩ vx rx => ?_
  cases e2 : truthD h1 x with
  | none => simp only [e2] at q1; exact q1.none
  | some k =>
    refine ⟨k, truthD_ok rel1.hr rx e2, ?_⟩
    cases k with
    | false => simp only [e2] at q1; exact q1 μ1 H1 .refl rel1.hr vx rx
    | true => simp only [e2] at q1; exact ⟨ρ, L, μ1, h1, rel1, q1⟩
theorem e_one {a : Expr} {op} {ma : M D} {pos : Pos} (ha : PE X a (rd X W ma)) : PE X (.BoolOp op [a] pos) (rd X W ma) := pe_one ha
theorem e_not {a : Expr} {ma : M D} {pos : Pos} (ha : PE X a (rd X W ma)) : PE X (.UnaryOp .Not a pos) (rd X W (mNotV ma)) := by
  refine pe_imp (pe_notT ha) fun σ H Q q => rdG_imp (rdG_bind q) fun ρ L x h1 μ1 H1 ⟨rel1, q1⟩ vx rx => ?_
  cases e2 : truthD h1 x with
  | none => simp only [e2] at q1; exact q1.none
  | some k =>
    simp only [e2] at q1
    exact ⟨k, truthD_ok rel1.hr rx e2, q1 μ1 H1 .refl rel1.hr _ rfl⟩
def mIf (c : M Bool) (a b : M D) : M D := mBind c fun k => if k = true then a else b
theorem e_ife {c a b : Expr} {mc : M Bool} {ma mb : M D} {pos : Pos} (hc : PT X c (rdT X W mc)) (ha : PE X a (rd X W ma)) (hb : PE X b (rd X W mb)) : PE X (.IfExp c a b pos) (rd X W (mIf mc ma mb)) := by
  refine pe_imp (pe_ifExp hc ha hb) fun σ H Q q => rdG_imp (rdG_bind q) fun ρ L k h1 μ1 H1 ⟨rel1, q1⟩ => ?_
  cases k with
  | true => exact ⟨ρ, L, μ1, h1, rel1, q1⟩
  | false => exact ⟨ρ, L, μ1, h1, rel1, q1⟩
/-! built-ins by name -/
theorem e_callB {x : Str} {id : String} {r : List V → Hp → VK → Prop} {f : Hs → List D → Option Nv} {p pos : Pos} {e : Expr} {es : List Expr} {ms : M (List D)} (hc : CallR X (.builtin id) r) (c : CovA (ctX X) r f) (hv : bootBuiltins x = some (.builtin id)) (hg : Gl X x) (hm : X.mg x = none)
    (ha : PA X (e :: es) (rdA X W ms)) (hn : x ≠ "__name__" := by decide) (hdb : (x == ("__debug__" : Str)) = false := by decide) (he : starEach (e :: es) X.env = (false, eval e X.env) :: starEach es X.env := by rfl) (hpl : (backTo pos (starEach es X.env)).any (·.1) = false := by rfl) :
    PE X (.Call (.Name x p) (e :: es) [] pos) (rd X W (mOpA f ms)) := pe_imp (pe_callB hc hg hm hv ha hn hdb he hpl) fun _ _ _ h => rd_opA c h
theorem e_callTy {x : Str} {T : String} {r : List V → Hp → VK → Prop} {f : Hs → List D → Option Nv} {p pos : Pos} {e : Expr} {es : List Expr} {ms : M (List D)} (hc : CallR X (.type T) r) (c : CovA (ctX X) r f) (hv : bootBuiltins x = some (.type T)) (hg : Gl X x) (hm : X.mg x = none)
    (ha : PA X (e :: es) (rdA X W ms)) (hn : x ≠ "__name__" := by decide) (hdb : (x == ("__debug__" : Str)) = false := by decide) (he : starEach (e :: es) X.env = (false, eval e X.env) :: starEach es X.env := by rfl) (hpl : (backTo pos (starEach es X.env)).any (·.1) = false := by rfl) :
    PE X (.Call (.Name x p) (e :: es) [] pos) (rd X W (mOpA f ms)) := pe_imp (pe_callTy hc hg hm hv ha hn hdb he hpl) fun _ _ _ h => rd_opA c h
end

/-! ### statements -/
inductive RS where
  | nx (ρ : En) (h : Hs) | rt (d : D) (h : Hs) | bk (ρ : En) (h : Hs) | ct (ρ : En) (h : Hs)
  | ex (c : Str) (fs : List (Str × D)) (ρ : En) (h : Hs)
abbrev MS := En → Hs → Option RS
def SatS (X : Cx) (W : WX) (D : Ends) (L : List Nat) (μ : Mu) (H : Hp) (o : Option RS) : Prop := match o with
  | none => False
  | some (.nx ρ' h') => ∀ σ' μ' H', Go L μ H μ' H' → Rel (ctX X) L ρ' σ' μ' H' h' → D.nx σ' H'
  | some (.bk ρ' h') => ∀ σ' μ' H', Go L μ H μ' H' → Rel (ctX X) L ρ' σ' μ' H' h' → D.bk σ' H'
  | some (.ct ρ' h') => ∀ σ' μ' H', Go L μ H μ' H' → Rel (ctX X) L ρ' σ' μ' H' h' → D.ct σ' H'
  | some (.rt d h') => ∀ μ' H' x, Go L μ H μ' H' → HR (ctX X) L μ' H' h' → RepV (ctX X) μ' H' d x → D.rt x H'
  | some (.ex c fs ρ' h') => ∀ cls d σ' μ' H', Go L μ H μ' H' → Rel (ctX X) L ρ' σ' μ' H' h' → RepX (ctX X) μ' H' c fs cls d → W cls d σ' H'
def rdS (X : Cx) (W : WX) (m : MS) : TS := fun D σ H => ∃ ρ L μ h, Rel (ctX X) L ρ σ μ H h ∧ SatS X W D L μ H (m ρ h)
def mNx : MS := fun ρ h => some (.nx ρ h)
def mSeq (a b : MS) : MS := fun ρ h => match a ρ h with
  | some (.nx ρ1 h1) => b ρ1 h1
  | o => o
/-- an expression ahead of a statement's end -/
def mDo {α : Type} (m : M α) (g : α → MS) : MS := fun ρ h => match m ρ h with
  | none => none
  | some (.ok a h1) => g a ρ h1
  | some (.ex c fs h1) => some (.ex c fs ρ h1)
section
variable {X : Cx} {W : WX} {L : List Nat} {D0 : Ends} {ρ ρ' : En} {σ σ' : L2.St} {H H' H1 : Hp} {μ μ' μ1 : Mu} {h h' h1 : Hs}
theorem SatS.none {C : Prop} (h : SatS X W D0 L μ H none) : C := False.elim h
theorem SatS.start {o : Option RS} (q : SatS X W D0 L μ H o) (g : Go L μ H μ1 H1) : SatS X W D0 L μ1 H1 o := by
  cases o with
  | none => exact q.none
  | some o =>
    cases o with
    | nx ρ2 => exact fun s2 m2 H2 g2 r => q s2 m2 H2 (g.trans g2) r
    | bk ρ2 => exact fun s2 m2 H2 g2 r => q s2 m2 H2 (g.trans g2) r
    | ct ρ2 => exact fun s2 m2 H2 g2 r => q s2 m2 H2 (g.trans g2) r
    | rt n ρ2 => exact fun m2 H2 x g2 r rr => q m2 H2 x (g.trans g2) r rr
    | ex c fs ρ2 => exact fun cls d s2 m2 H2 g2 r => q cls d s2 m2 H2 (g.trans g2) r
theorem SatS.bind {α : Type} {m : M α} {g : α → MS} (r : Rel (ctX X) L ρ σ μ H h) (q : SatS X W D0 L μ H (mDo m g ρ h)) : Sat X W L σ μ H (m ρ h) fun a h1 μ1 H1 => Rel (ctX X) L ρ σ μ1 H1 h1 ∧ SatS X W D0 L μ1 H1 (g a ρ h1) := by
  unfold mDo at q
  cases e : m ρ h with
  | none => rw [e] at q; exact q.none
  | some o =>
    rw [e] at q
    cases o with
    | ex c fs h1 => exact fun cls d m1 H1 g1 r1 x => q cls d σ m1 H1 g1 (r.go g1 r1) x
    | ok a h1 => exact fun m1 H1 g1 r1 => ⟨r.go g1 r1, SatS.start (show SatS X W D0 L μ H (g a ρ h1) from q) g1⟩
/-- an expression's mirror ahead of a statement's end -/
theorem rdS_bind {α : Type} {m : M α} {g : α → MS} (q : rdS X W (mDo m g) D0 σ H) : rdG X W m σ H fun ρ L a h1 μ1 H1 => Rel (ctX X) L ρ σ μ1 H1 h1 ∧ SatS X W D0 L μ1 H1 (g a ρ h1) := by
  obtain ⟨ρ, L, μ, h, rel, q⟩ := q
  exact ⟨ρ, L, μ, h, rel, q.bind rel⟩
theorem s_nil : PSs X [] (rdS X W mNx) := pss_imp pss_nil fun D σ H ⟨ρ, L, μ, h, rel, q⟩ => q σ μ H .refl rel
theorem s_cons {s : Stmt} {ss : List Stmt} {m ms : MS} (h1 : PS X s (rdS X W m)) (h2 : PSs X ss (rdS X W ms)) : PSs X (s :: ss) (rdS X W (mSeq m ms)) := by
  refine pss_imp (pss_cons h1 h2) fun D σ H ⟨ρ, L, μ, h, rel, q⟩ => ⟨ρ, L, μ, h, rel, ?_⟩
  unfold mSeq at q
  cases e : m ρ h with
  | none => rw [e] at q; exact q.none
  | some o =>
    rw [e] at q
    cases o with
    | nx ρ1 h1 => exact fun σ1 m1 H1 g r => ⟨ρ1, L, m1, h1, r, SatS.start (show SatS X W D L μ H (ms ρ1 h1) from q) g⟩
    | bk ρ1 => exact q
    | ct ρ1 => exact q
    | rt n ρ1 => exact q
    | ex c fs ρ1 => exact q
def mExpr (m : M D) : MS := mDo m fun _ => mNx
theorem s_expr {e : Expr} {m : M D} {pos : Pos} (he : PE X e (rd X W m)) (hs : swapsWith e none pos.line X.env = pure false := by rfl) : PS X (.Expr e pos) (rdS X W (mExpr m)) :=
  ps_imp (ps_expr he hs) fun D σ H q => rdG_imp (rdS_bind q) fun ρ L d h1 μ1 H1 ⟨rel1, q1⟩ x rx => q1 σ μ1 H1 .refl rel1
def mRet (m : M D) : MS := mDo m fun d => fun _ h => some (.rt d h)
theorem s_ret {e : Expr} {m : M D} {pos : Pos} (he : PE X e (rd X W m)) : PS X (.Return (some e) pos) (rdS X W (mRet m)) :=
  ps_imp (ps_ret he) fun D σ H q => rdG_imp (rdS_bind q) fun ρ L d h1 μ1 H1 ⟨rel1, q1⟩ x rx => q1 μ1 H1 x .refl rel1.hr rx
def mIfS (c : M Bool) (a b : MS) : MS := mDo c fun k => if k = true then a else b
theorem s_if {c : Expr} {as bs : List Stmt} {mc : M Bool} {ma mb : MS} {pos : Pos} (hc : PT X c (rdT X W mc)) (ha : PSs X as (rdS X W ma)) (hb : PSs X bs (rdS X W mb)) : PS X (.If c as bs pos) (rdS X W (mIfS mc ma mb)) := by
  refine ps_imp (ps_if hc ha hb) fun D σ H q => rdG_imp (rdS_bind q) fun ρ L k h1 μ1 H1 ⟨rel1, q1⟩ => ?_
  cases k with
  | true => exact ⟨ρ, L, μ1, h1, rel1, q1⟩
  | false => exact ⟨ρ, L, μ1, h1, rel1, q1⟩
/-! storing a name -/
def mSet (i : Nat) (m : M D) : MS := mDo m fun d => fun ρ h => some (.nx (ρ.set i (some d)) h)
theorem s_set {i : Nat} {x : Str} {e : Expr} {m : M D} {pos pos' : Pos} (hN : X.N.Nodup) (hi : X.N[i]? = some x) (hx : Loc X.env.scope x) (he : PE X e (rd X W m)) (hs : swapsWith e (some (.Name x pos')) pos.line X.env = pure false := by rfl)
    (hf : X.fn x = true ∨ X.env.scope.names.lookup x = some .local := by first | exact .inl rfl | exact .inr rfl | assumption) : PS X (.Assign [.Name x pos'] e pos) (rdS X W (mSet i m)) :=
  ps_imp (ps_set hN hi hx he hs hf) fun D σ H q => rdG_imp (rdS_bind q) fun ρ L d h1 μ1 H1 ⟨rel1, q1⟩ y ry => q1 _ μ1 H1 .refl (rel1.set ry)
end
end Rh

set_option Elab.async false
set_option linter.all false
set_option maxRecDepth 100000
set_option maxHeartbeats 2000000
set_option autoImplicit false
namespace Rh
open PySem PySem.Spec PyProof.Rows L2
variable [Tbs]

/-! ### calls of own defs -/
inductive FR where
  | rt (d : D) (h : Hs)
  | ex (c : Str) (fs : List (Str × D)) (h : Hs)
def envOf (n : Nat) (as : List D) : En := as.map some ++ List.replicate (n - as.length) none
/-- a def's mirror from its body's -/
def runDef (n : Nat) (body : MS) (as : List D) (h : Hs) : Option FR := match body (envOf n as) h with
  | some (.nx _ h) => some (.rt .non h)
  | some (.rt r h) => some (.rt r h)
  | some (.ex c fs _ h) => some (.ex c fs h)
  | _ => none
abbrev FM := List D → Hs → Option FR
/-- what a def promises: its mirror -/
def spF (C : Ct) (np : Nat) (f : FM) : Sp := fun vs H Q E => ∃ L μ h as, vs.length = np ∧ RepL C μ H as vs ∧ HR C L μ H h ∧ match f as h with
  | none => False
  | some (.rt d h') => ∀ x μ' H', Go L μ H μ' H' → HR C L μ' H' h' → RepV C μ' H' d x → Q x H'
  | some (.ex c fs h') => ∀ cls dd μ' H', Go L μ H μ' H' → HR C L μ' H' h' → RepX C μ' H' c fs cls dd → E cls dd H'
def mCall (f : FM) (ms : M (List D)) : M D := mBind ms fun as => fun _ h => match f as h with
  | none => none
  | some (.rt d h') => some (.ok d h')
  | some (.ex c fs h') => some (.ex c fs h')
section
variable {X : Cx} {W : WX} {σ : L2.St} {H : Hp} {Q : VK}
theorem passes_at (tk : Takes X W) : ∀ σ, PassesAt (CX X.prog X.w) X σ (fun cls d H' => W cls d σ H') := fun σ pins H s e s' I c => tk e s' (XE.of_call I (fun cls d H' h => h) c)
abbrev LenM (ms : M (List D)) (n : Nat) : Prop := ∀ ρ h bs h1, ms ρ h = some (.ok bs h1) → bs.length = n
theorem len_nil : LenM mNil 0 := fun ρ h bs ρ1 e => by cases e; rfl
theorem len_cons {m : M D} {ms : M (List D)} {n : Nat} (q : LenM ms n) : LenM (mCons m ms) (n + 1) := fun ρ h bs h1 e => by
  unfold mCons mBind at e
  split at e
  · cases e
  · rename_i x h2 _
    dsimp only at e
    split at e
    · cases e
    · rename_i xs h3 e2
      cases e
      rw [List.length_cons, q _ _ _ _ e2]
    · cases e
  · cases e
/-- what the callee asks -/
theorem sp_of {f : FM} {np : Nat} {as : List D} {vs : List V} {L : List Nat} {μ : Mu} {h : Hs} (hl : as.length = np) (hr : HR (ctX X) L μ H h) (rl : RepL (ctX X) μ H as vs)
    (q : Sat X W L σ μ H (match f as h with | none => none | some (.rt d h') => some (R.ok d h') | some (.ex c fs h') => some (.ex c fs h')) fun d h' μ' H' => ∀ x, RepV (ctX X) μ' H' d x → Q x H') :
    spF (ctX X) np f vs H Q (fun cls d H' => W cls d σ H') := by
  refine ⟨L, μ, h, as, rl.length.trans hl, rl, hr, ?_⟩
  cases e : f as h with
  | none => rw [e] at q; exact q.none
  | some o =>
    rw [e] at q
    cases o with
    | rt d h' => exact fun x μ' H' g r rv => q μ' H' g r x rv
    | ex c fs h' => exact fun cls dd μ' H' g r rx => q cls dd μ' H' g r rx
theorem rd_call {f : FM} {np : Nat} {ms : M (List D)} (hlen : LenM ms np) (q : rd X W (mCall f ms) σ H Q) :
    tCallSD (spF (ctX X) np f) [] (fun σ cls d H' => W cls d σ H') (rdA X W ms) σ H Q := by
  obtain ⟨ρ, L, μ, h, rel, q⟩ := q
  refine ⟨ρ, L, μ, h, rel, ?_⟩
  have q2 := q.bind rel
  cases em : ms ρ h with
  | none => rw [em] at q2; exact q2.none
  | some o =>
    rw [em] at q2
    cases o with
    | ex c fs h1 => exact q2
    | ok as h1 =>
      intro μ1 H1 g1 r1 vs rs
      obtain ⟨_, rel1, q3⟩ := q2 μ1 H1 g1 r1
      rw [List.append_nil]
      exact sp_of (hlen ρ h as h1 em) rel1.hr rs q3
variable {k : Nat} {f : Addr} {fd : FuncData} {ps N : List Str} {np : Nat} {fm : FM} {x : Str} {p pos : Pos} {e : Expr} {es : List Expr} {ms : M (List D)}
theorem e_call (F : FnOk X.prog X.w X.K X.mg X.base (L2.CX X.prog X.w) k f fd ps (spF (ctX X) np fm)) (hr : Room k X.A) (hm : X.mg x = some (.ref f)) (hk : PySem.W.keepIn X.K (.ref f) = true) (hb : Binds X.K fd ps []) (tk : Takes X W) (hlen : LenM ms np) (hg : Gl X x)
    (ha : PA X (e :: es) (rdA X W ms)) (hdb : (x == ("__debug__" : Str)) = false := by decide) (he : starEach (e :: es) X.env = (false, eval e X.env) :: starEach es X.env := by rfl) (hpl : (backTo pos (starEach es X.env)).any (·.1) = false := by rfl) :
    PE X (.Call (.Name x p) (e :: es) [] pos) (rd X W (mCall fm ms)) :=
  pe_imp (pe_callSD F hr hg hm hk hb .nil (passes_at tk) ha hdb he hpl) fun _ _ _ h => rd_call hlen h
theorem e_call0 (F : FnOk X.prog X.w X.K X.mg X.base (L2.CX X.prog X.w) k f fd ps (spF (ctX X) 0 fm)) (hr : Room k X.A) (hm : X.mg x = some (.ref f)) (hk : PySem.W.keepIn X.K (.ref f) = true) (hb : Binds X.K fd ps []) (tk : Takes X W) (hg : Gl X x)
    (hdb : (x == ("__debug__" : Str)) = false := by decide) : PE X (.Call (.Name x p) [] [] pos) (rd X W (mCall fm mNil)) := by
  refine ⟨fun pins s σ H Q I q => ?_⟩
  refine wpAny_Call_Name_kw (ld_glob I hg hm ?_ hdb)
  obtain ⟨ρ, L, μ, h, rel, q⟩ := q
  exact PySem.W.callWith_K0 I.kIn hk (run_fnSD (us := []) (E := fun σ cls d H' => W cls d σ H') F hr hb .nil (passes_at tk σ) I .nil (sp_of (as := []) rfl rel.hr rfl q))
end
/-! ### a def -/
/-- the context of a def's body -/
abbrev cxD (P : Program) (w : World) (K : PySem.W.Frag) (mg : Str → Option Value) (base : Heap) (N : List Str) (qual : Str) (st : Stmt) (f : Addr) (cdv : Value) (A : Around) (outer : List PySem.Env) (s : Shared) (H : Hp) (E : XK) : Cx :=
  cxOf (L2.CX P w) P w K mg base N qual (defScope st) f cdv A outer s H E
abbrev wD (E : XK) : WX := fun cls d _ H => E cls d H
theorem tkD {P : Program} {w : World} {K : PySem.W.Frag} {mg : Str → Option Value} {base : Heap} {N : List Str} {qual : Str} {st : Stmt} {f : Addr} {cdv : Value} {A : Around} {outer : List PySem.Env} {s : Shared} {H : Hp} {E : XK} : Takes (cxD P w K mg base N qual st f cdv A outer s H E) (wD E) := takes_of rfl rfl rfl rfl
theorem poD {P : Program} {w : World} {K : PySem.W.Frag} {mg : Str → Option Value} {base : Heap} {N : List Str} {qual : Str} {st : Stmt} {f : Addr} {cdv : Value} {A : Around} {outer : List PySem.Env} {s : Shared} {H : Hp} {E : XK} :
    PassesOwn (model (cxD P w K mg base N qual st f cdv A outer s H E).prog (cxD P w K mg base N qual st f cdv A outer s H E).w) (cxD P w K mg base N qual st f cdv A outer s H E).A (cxD P w K mg base N qual st f cdv A outer s H E).env (cxD P w K mg base N qual st f cdv A outer s H E).xe := passes_of rfl
theorem env_rel {C : Ct} {L : List Nat} {μ : Mu} {H : Hp} {h : Hs} {N : List Str} {as : List D} {vs : List V} (rl : RepL C μ H as vs) (hr : HR C L μ H h) (hN : vs.length ≤ N.length) : Rel C L (envOf N.length as) (start N vs) μ H h := by
  have hl := rl.length
  refine ⟨?_, fun i d e => ?_, hr⟩
  · unfold envOf L2.start
    rw [List.length_append, List.length_append, List.length_map, List.length_map, List.length_replicate, List.length_replicate]
    omega
  · unfold envOf at e
    by_cases hi : i < as.length
    · rw [List.getElem?_append_left (by simpa using hi), List.getElem?_map] at e
      obtain ⟨d', e1, e2⟩ := Option.map_eq_some_iff.mp e
      cases e2
      obtain ⟨v, e3, rv⟩ := rl.get e1
      refine ⟨v, ?_, rv.s⟩
      unfold L2.start
      rw [List.getElem?_append_left (by rw [List.length_map]; omega), List.getElem?_map, e3]
      rfl
    · rw [List.getElem?_append_right (by simpa using Nat.le_of_not_lt hi), List.getElem?_replicate] at e
      split at e <;> cases e
theorem fn_ok {P : Program} {w : World} {K : PySem.W.Frag} {mg : Str → Option Value} {base : Heap} {x qual : Str} {st : Stmt} {f : Addr} {fd : FuncData} {N ps : List Str} {k np : Nat} {mb : MS} (F : Fun K x qual st f fd) (S : FnScope N ps (defScope st)) (hp : ps.length = np) (hN : np ≤ N.length)
    (hbody : ∀ (cdv : Value) (A : Around) (outer : List PySem.Env) (s : Shared) (H : Hp) (E : XK), Room k (A.deeper (envOfC qual (defScope st) s.heap.objs.size f cdv)) →
      PSs (cxD P w K mg base N qual st f cdv A outer s H E) (defBody st) (rdS (cxD P w K mg base N qual st f cdv A outer s H E) (wD E) mb)) :
    FnOk P w K mg base (L2.CX P w) (k + 1) f fd ps (spF ⟨w, K, mg⟩ np (runDef N.length mb)) := by
  refine F.okX S (fun vs H Q E ⟨L, μ, h, as, hv, _⟩ => hv.trans hp.symm) fun cdv A outer s H vs Q E hr ⟨L, μ, h, as, hv, rl, r, q⟩ => ⟨_, hbody cdv A outer s H E hr, _, L, μ, h, env_rel rl r (by omega), ?_⟩
  unfold runDef at q
  cases e : mb (envOf N.length as) h with
  | none => simp only [e] at q
  | some o =>
    cases o with
    | nx ρ h' => simp only [e] at q; exact fun σ' μ' H' g r => q .non μ' H' g r.hr rfl
    | rt n ρ => simp only [e] at q; exact fun μ' H' x g r rr => q x μ' H' g r rr
    | ex c fs ρ h' => simp only [e] at q; exact fun cls d σ' μ' H' g r rx => q cls d μ' H' g r.hr rx
    | bk ρ => simp only [e] at q
    | ct ρ => simp only [e] at q
end Rh

set_option Elab.async false
set_option linter.all false
set_option maxRecDepth 100000
set_option maxHeartbeats 2000000
set_option autoImplicit false
namespace Rh
open PySem PySem.Spec PyProof.Rows L2
variable [Tbs]
/-! ### dicts, at the heap -/
abbrev Ent := NestedKey × Value × Value
def idxK (ks : List NestedKey) (k : NestedKey) : Option Nat := ks.findIdx? fun x => decide (x = k)
structure RawD (w : World) (h : Heap) (a : Addr) (ep : Nat) (rs : List Ent) : Prop where
  sys : (a == sysModules) = false
  sz : rs.length ≤ sizeLine
  at_ : ∃ o, h.get? a = some o ∧ o.ExactDict ∧ o.data = .dict (rs.map fun e => (⟨e.1.hash w, e.2.1, e.2.2⟩ : DictEntry)).toArray ep
  nd : (rs.map (·.1)).Nodup
  hom : homK (rs.map (·.1)) = true
def KL (rs : List Ent) : Prop := ∀ r ∈ rs, ∃ l : Leaf, l.key = r.1 ∧ Leaf.isOf l r.2.1 = true
def KT (h : Heap) (rs : List Ent) : Prop := ∀ r ∈ rs, ∃ b, r.2.1 = .ref b ∧ NestedIs h r.1 (.ref b) ∧ r.1.depth ≤ 8
def putR (rs : List Ent) (k : NestedKey) (ku vu : Value) : List Ent := match idxK (rs.map (·.1)) k with
  | some i => rs.modify i fun r => (r.1, r.2.1, vu)
  | none => rs ++ [(k, ku, vu)]
def getR (rs : List Ent) (k : NestedKey) : Option Value := (idxK (rs.map (·.1)) k).bind fun i => (rs[i]?).map (·.2.2)
def toLeaf : NestedKey → Leaf
  | .none => .none
  | .num i => .num i
  | .text x => .text x
  | .tup _ => .none
theorem toLeaf_key : ∀ l : Leaf, toLeaf l.key = l
  | .none => rfl
  | .num _ => rfl
  | .text _ => rfl
theorem key_toLeaf {rs : List Ent} (hk : KL rs) {r : Ent} (h : r ∈ rs) : (toLeaf r.1).key = r.1 ∧ Leaf.isOf (toLeaf r.1) r.2.1 = true := by
  obtain ⟨l, e, i⟩ := hk r h
  rw [← e, toLeaf_key]
  exact ⟨rfl, i⟩
def adr : Value → Addr
  | .ref a => a
  | _ => default
def lv (r : Ent) : Leaf × Value := (toLeaf r.1, r.2.2)
def tv (r : Ent) : NestedKey × Addr × Value := (r.1, adr r.2.1, r.2.2)
theorem idx_lv {rs : List Ent} (hk : KL rs) (l : Leaf) : (rs.map lv).findIdx? (fun kv => decide (kv.1 = l)) = idxK (rs.map (·.1)) l.key := by
  unfold idxK
  rw [List.findIdx?_map, List.findIdx?_map]
  induction rs with
  | nil => rfl
  | cons r rs ih =>
    have h1 := key_toLeaf hk (List.mem_cons_self ..)
    have e : decide ((lv r).1 = l) = decide (r.1 = l.key) := by
      by_cases q : (lv r).1 = l
      · rw [decide_eq_true q]
        have q2 : r.1 = l.key := by rw [← q]; exact h1.1.symm
        rw [decide_eq_true q2]
      · rw [decide_eq_false q]
        have q2 : ¬ r.1 = l.key := fun z => q (by show toLeaf r.1 = l; rw [z, toLeaf_key])
        rw [decide_eq_false q2]
    rw [List.findIdx?_cons, List.findIdx?_cons, ih fun r h => hk r (List.mem_cons_of_mem _ h)]
    show (if decide ((lv r).1 = l) = true then _ else _) = (if decide (r.1 = l.key) = true then _ else _)
    rw [e]
theorem find_idx {α : Type} (p : α → Bool) : ∀ xs : List α, xs.find? p = (xs.findIdx? p).bind fun i => xs[i]?
  | [] => rfl
  | x :: xs => by
    rw [List.find?_cons, List.findIdx?_cons]
    cases h : p x with
    | true => rfl
    | false =>
      simp only [Bool.false_eq_true, if_false]
      rw [find_idx p xs]
      cases xs.findIdx? p <;> rfl
theorem at_lv {rs : List Ent} (hk : KL rs) (l : Leaf) : valueAt (rs.map lv) l = getR rs l.key := by
  unfold valueAt getR
  rw [find_idx, idx_lv hk]
  cases idxK (rs.map (·.1)) l.key with
  | none => rfl
  | some i =>
    show ((rs.map lv)[i]?).map _ = (rs[i]?).map _
    rw [List.getElem?_map]
    cases rs[i]? <;> rfl
theorem at_tv {rs : List Ent} (k : NestedKey) : (atKey (rs.map tv) k).map (·.2) = getR rs k := by
  have e : (rs.map tv).findIdx? (fun x => decide (x.1 = k)) = idxK (rs.map (·.1)) k := by
    unfold idxK
    rw [List.findIdx?_map, List.findIdx?_map]
    rfl
  unfold atKey getR
  rw [find_idx, e]
  cases idxK (rs.map (·.1)) k with
  | none => rfl
  | some i =>
    show (((rs.map tv)[i]?).map _).map _ = (rs[i]?).map _
    rw [List.getElem?_map]
    cases rs[i]? <;> rfl
section
variable {P : Program} {w : World} {h : Heap} {a : Addr} {ep : Nat} {rs : List Ent}
theorem RawD.leaf (x : RawD w h a ep rs) (hk : KL rs) : h.DictOf (leafKind P w) a (rs.map lv) := by
  obtain ⟨o, ho, hc, hd⟩ := x.at_
  refine ⟨o, _, ep, ho, hc, hd, fun e he => ?_, ?_, ?_⟩
  · obtain ⟨r, hr, rfl⟩ := List.mem_map.mp (List.mem_toArray.mp he)
    obtain ⟨h1, h2⟩ := key_toLeaf hk hr
    exact ⟨toLeaf r.1, h2, by show NestedKey.hash w r.1 = NestedKey.hash w (toLeaf r.1).key; rw [h1]⟩
  · have : ∀ l : List Ent, KL l → Pairs (leafKind P w) (l.map fun e => (⟨e.1.hash w, e.2.1, e.2.2⟩ : DictEntry)) (l.map lv) := fun l => by
      induction l with
      | nil => exact fun _ => .nil
      | cons r l ih => exact fun q => .cons (key_toLeaf q (List.mem_cons_self ..)).2 rfl (ih fun r h => q r (List.mem_cons_of_mem _ h))
    exact this rs hk
  · have nd := x.nd
    have : ∀ l : List Ent, KL l → (l.map (·.1)).Nodup → ((l.map lv).map (·.1)).Nodup := fun l => by
      induction l with
      | nil => exact fun _ _ => .nil
      | cons r l ih =>
        intro q n
        rw [List.map_cons, List.nodup_cons] at n
        rw [List.map_cons, List.map_cons, List.nodup_cons]
        refine ⟨fun hm => n.1 ?_, ih (fun r h => q r (List.mem_cons_of_mem _ h)) n.2⟩
        obtain ⟨p, hp, e⟩ := List.mem_map.mp hm
        obtain ⟨r2, hr2, rfl⟩ := List.mem_map.mp hp
        refine List.mem_map.mpr ⟨r2, hr2, ?_⟩
        have e : toLeaf r2.1 = toLeaf r.1 := e
        rw [← (key_toLeaf q (List.mem_cons_of_mem _ hr2)).1, ← (key_toLeaf q (List.mem_cons_self ..)).1, e]
    exact this rs hk nd
theorem RawD.heap (x : RawD w h a ep rs) (hk : KT h rs) : h.DictOfH (nestedKind P w) a (rs.map tv) := by
  obtain ⟨o, ho, hc, hd⟩ := x.at_
  refine ⟨o, _, ep, ho, hc, hd, ?_, fun y hy => ?_, ?_⟩
  · show rs.map _ = (rs.map tv).map _
    rw [List.map_map]
    refine List.map_congr_left fun r hr => ?_
    obtain ⟨b, e, _⟩ := hk r hr
    show (⟨r.1.hash w, r.2.1, r.2.2⟩ : DictEntry) = ⟨r.1.hash w, .ref (adr r.2.1), r.2.2⟩
    rw [e]
    rfl
  · obtain ⟨r, hr, rfl⟩ := List.mem_map.mp hy
    obtain ⟨b, e, n, dp⟩ := hk r hr
    show NestedIs h r.1 (.ref (adr r.2.1)) ∧ r.1.depth ≤ 8
    rw [e]
    exact ⟨n, dp⟩
  · rw [List.map_map]
    exact x.nd
end
section
variable {P : Program} {w : World} {A : Around} {E : Value → Shared → Prop} {s : Shared} {a : Addr} {ep : Nat} {rs : List Ent} {k : NestedKey} {ku : Value}
/-- a key to look up: simple, or a tuple -/
def KeyFor (h : Heap) (rs : List Ent) (k : NestedKey) (ku : Value) : Prop := (KL rs ∧ ∃ l : Leaf, l.key = k ∧ Leaf.isOf l ku = true) ∨ (KT h rs ∧ ∃ b, ku = .ref b ∧ NestedIs h k (.ref b) ∧ k.depth ≤ 8)
theorem raw_get {v : Value} {Q : Value → Shared → Prop} (hu : A.in1.units + 8 < cLine) (x : RawD w s.heap a ep rs) (hk : KeyFor s.heap rs k ku) (hv : getR rs k = some v) (hq : ∀ tk, Q v { s with toks := tk }) :
    wpAny (model P w) A (getItem (.ref a) ku) Q E s := by
  rcases hk with ⟨kl, l, rfl, hl⟩ | ⟨kt, b, rfl, hb, dp⟩
  · exact wpAny_getItem_of (knd := leafKind P w) hl (x.leaf kl).mapOf (by rw [at_lv kl]; exact hv) (hq _)
  · rw [← at_tv] at hv
    obtain ⟨p, hp, rfl⟩ := Option.map_eq_some_iff.mp hv
    exact wpAny_getItem_heap (knd := nestedKind P w) hu ⟨hb, dp⟩ (x.heap kt) hp (hq _)
end
theorem put_some {rs : List Ent} {k : NestedKey} {ku vu : Value} {i : Nat} (h : idxK (rs.map (·.1)) k = some i) : putR rs k ku vu = rs.modify i fun r => (r.1, r.2.1, vu) := by
  unfold putR
  rw [h]
theorem put_none {rs : List Ent} {k : NestedKey} {ku vu : Value} (h : idxK (rs.map (·.1)) k = none) : putR rs k ku vu = rs ++ [(k, ku, vu)] := by
  unfold putR
  rw [h]
theorem modify_map {α β : Type} (f : α → β) (g : α → α) (g' : β → β) (h : ∀ a, f (g a) = g' (f a)) : ∀ (xs : List α) (i : Nat), (xs.modify i g).map f = (xs.map f).modify i g'
  | [], i => by simp
  | x :: xs, 0 => by simp [h]
  | x :: xs, i + 1 => by simp [modify_map f g g' h xs i]
theorem put_keys {rs : List Ent} {k : NestedKey} {ku vu : Value} : (putR rs k ku vu).map (·.1) = match idxK (rs.map (·.1)) k with
  | some _ => rs.map (·.1)
  | none => rs.map (·.1) ++ [k] := by
  cases e : idxK (rs.map (·.1)) k with
  | some i =>
    rw [put_some e, modify_map (fun r : Ent => r.1) (fun r => (r.1, r.2.1, vu)) id fun a => rfl]
    simp
  | none => rw [put_none e, List.map_append]; rfl
theorem put_nodup {rs : List Ent} {k : NestedKey} {ku vu : Value} (nd : (rs.map (·.1)).Nodup) : ((putR rs k ku vu).map (·.1)).Nodup := by
  rw [put_keys]
  cases e : idxK (rs.map (·.1)) k with
  | some i => exact nd
  | none =>
    show (rs.map (·.1) ++ [k]).Nodup
    rw [List.nodup_append]
    refine ⟨nd, by simp, fun x hx y hy => ?_⟩
    have ey : y = k := by simpa using hy
    subst ey
    intro exy
    subst exy
    have := List.findIdx?_eq_none_iff.mp e x hx
    simp at this
theorem put_len {rs : List Ent} {k : NestedKey} {ku vu : Value} : (putR rs k ku vu).length ≤ rs.length + 1 := by
  cases e : idxK (rs.map (·.1)) k with
  | some i => rw [put_some e, List.length_modify]; omega
  | none => rw [put_none e, List.length_append]; simp
/-! keys of one kind, and one more -/
theorem leaf_leafK : ∀ l : Leaf, leafK l.key = true
  | .none => rfl
  | .num _ => rfl
  | .text _ => rfl
theorem homL_put {rs : List Ent} {l : Leaf} {ku vu : Value} (kl : KL rs) : homK ((putR rs l.key ku vu).map (·.1)) = true := by
  unfold homK
  rw [Bool.or_eq_true]
  refine .inl (List.all_eq_true.mpr fun k hk => ?_)
  have all : ∀ k ∈ rs.map (·.1), leafK k = true := fun k hk => by
    obtain ⟨r, hr, rfl⟩ := List.mem_map.mp hk
    obtain ⟨l', e, _⟩ := kl r hr
    rw [← e]; exact leaf_leafK l'
  rw [put_keys] at hk
  split at hk
  · exact all k hk
  · rcases List.mem_append.mp hk with hk | hk
    · exact all k hk
    · rw [List.mem_singleton.mp hk]; exact leaf_leafK l
theorem nested_tup {h : Heap} {k : NestedKey} {b : Addr} (n : NestedIs h k (.ref b)) : leafK k = false := by
  cases n with
  | tup _ _ _ _ => rfl
theorem homT_put {h : Heap} {rs : List Ent} {k : NestedKey} {b : Addr} {vu : Value} (kt : KT h rs) (hb : NestedIs h k (.ref b)) (dp : k.depth ≤ 8) : homK ((putR rs k (.ref b) vu).map (·.1)) = true := by
  unfold homK
  rw [Bool.or_eq_true]
  have one : (!leafK k && decide (k.depth ≤ 8)) = true := by rw [nested_tup hb, decide_eq_true dp]; rfl
  refine .inr (List.all_eq_true.mpr fun x hx => ?_)
  have all : ∀ k ∈ rs.map (·.1), (!leafK k && decide (k.depth ≤ 8)) = true := fun k hk => by
    obtain ⟨r, hr, rfl⟩ := List.mem_map.mp hk
    obtain ⟨c, e, n, d⟩ := kt r hr
    rw [nested_tup n, decide_eq_true d]; rfl
  rw [put_keys] at hx
  split at hx
  · exact all x hx
  · rcases List.mem_append.mp hx with hx | hx
    · exact all x hx
    · rw [List.mem_singleton.mp hx]; exact one
/-! keys sought in less steps -/
def iEq : Int → Int → Bool
  | .ofNat a, .ofNat b => Nat.beq a b
  | .negSucc a, .negSucc b => Nat.beq a b
  | _, _ => false
theorem iEq_eq (a b : Int) : iEq a b = decide (a = b) := by
  cases a with
  | ofNat a => cases b with
    | ofNat b => show Nat.beq a b = _; rw [beq_dec]; exact decide_eq_decide.mpr ⟨fun h => by rw [h], fun h => by injection h⟩
    | negSucc b => simp [iEq]
  | negSucc a => cases b with
    | ofNat b => simp [iEq]
    | negSucc b => show Nat.beq a b = _; rw [beq_dec]; simp
def kqA : NestedKey → NestedKey → Bool
  | .num a, .num b => iEq a b
  | .num _, _ => false
  | .none, .none => true
  | .none, _ => false
  | x, y => NestedKey.beq x y
def kqL (f : NestedKey → NestedKey → Bool) : List NestedKey → List NestedKey → Bool
  | [], [] => true
  | a :: r, b :: t => match f a b with
    | true => kqL f r t
    | false => false
  | _, _ => false
def kqB (x y : NestedKey) : Bool := match x with
  | .tup a => (match y with
    | .tup b => kqL kqA a b
    | _ => false)
  | _ => kqA x y
def kqC (x y : NestedKey) : Bool := match x with
  | .tup a => (match y with
    | .tup b => kqL kqB a b
    | _ => false)
  | _ => kqA x y
theorem kqA_eq (x y : NestedKey) : kqA x y = decide (x = y) := by
  rw [NestedKey.decide_eq]
  cases x with
  | num i => cases y with
    | num j => show iEq i j = decide (i = j); exact iEq_eq i j
    | _ => rfl
  | none => cases y <;> rfl
  | text t => cases y <;> rfl
  | tup ks => cases y <;> rfl
theorem kqL_eq {f : NestedKey → NestedKey → Bool} (hf : ∀ x y, f x y = decide (x = y)) : ∀ a b : List NestedKey, kqL f a b = decide (a = b)
  | [], [] => by simp [kqL]
  | [], b :: t => by simp [kqL]
  | a :: r, [] => by simp [kqL]
  | a :: r, b :: t => by
    unfold kqL
    rw [hf, kqL_eq hf r t]
    by_cases h : a = b
    · subst h; simp
    · simp [h]
theorem kqB_eq (x y : NestedKey) : kqB x y = decide (x = y) := by
  cases x with
  | tup a => cases y with
    | tup b => show kqL kqA a b = _; rw [kqL_eq kqA_eq]; simp
    | _ => exact (decide_eq_false fun h => nomatch h).symm
  | num i => exact kqA_eq (.num i) y
  | none => exact kqA_eq .none y
  | text t => exact kqA_eq (.text t) y
theorem kqC_eq (x y : NestedKey) : kqC x y = decide (x = y) := by
  cases x with
  | tup a => cases y with
    | tup b => show kqL kqB a b = _; rw [kqL_eq kqB_eq]; simp
    | _ => exact (decide_eq_false fun h => nomatch h).symm
  | num i => exact kqA_eq (.num i) y
  | none => exact kqA_eq .none y
  | text t => exact kqA_eq (.text t) y
def fIdx (k : NestedKey) : List NestedKey → Nat → Option Nat
  | [], _ => none
  | x :: r, i => match kqC x k with
    | true => some i
    | false => fIdx k r (i + 1)
theorem fIdx_eq (k : NestedKey) : ∀ (ks : List NestedKey) (i : Nat), fIdx k ks i = (idxK ks k).map (· + i)
  | [], i => rfl
  | x :: r, i => by
    unfold fIdx idxK
    rw [List.findIdx?_cons, kqC_eq]
    by_cases h : x = k
    · simp [h]
    · rw [decide_eq_false h]
      simp only [Bool.false_eq_true, if_false]
      rw [fIdx_eq k r (i + 1)]
      unfold idxK
      cases List.findIdx? (fun x => decide (x = k)) r with
      | none => rfl
      | some j => simp; omega
theorem fIdx_zero (ks : List NestedKey) (k : NestedKey) : fIdx k ks 0 = idxK ks k := by
  rw [fIdx_eq]
  cases idxK ks k <;> rfl
end Rh

set_option Elab.async false
set_option linter.all false
set_option maxRecDepth 100000
set_option maxHeartbeats 2000000
set_option autoImplicit false
namespace Rh
open PySem PySem.Spec PyProof.Rows L2
variable [Tbs]
section
variable {P : Program} {w : World} {A : Around} {E : Value → Shared → Prop} {s : Shared} {a : Addr} {ep : Nat} {rs : List Ent} {k : NestedKey} {ku : Value}
def ent (w : World) (e : Ent) : DictEntry := ⟨e.1.hash w, e.2.1, e.2.2⟩
theorem idx_arr {rs : List Ent} (hk : KL rs) (l : Leaf) : ((rs.map (ent w)).toArray.findIdx? fun e => (leafKind P w).is l e.key) = idxK (rs.map (·.1)) l.key := by
  rw [List.findIdx?_toArray, List.findIdx?_map]
  unfold idxK
  rw [List.findIdx?_map]
  induction rs with
  | nil => rfl
  | cons r rs ih =>
    obtain ⟨h1, h2⟩ := key_toLeaf hk (List.mem_cons_self ..)
    have e : (leafKind P w).is l r.2.1 = decide (r.1 = l.key) := by
      rw [KeyKind.is_eq_decide (knd := leafKind P w) h2 l]
      by_cases q : l = toLeaf r.1
      · rw [decide_eq_true q, decide_eq_true (show r.1 = l.key by rw [q]; exact h1.symm)]
      · rw [decide_eq_false q, decide_eq_false (fun z => q (by rw [z, toLeaf_key]))]
    rw [List.findIdx?_cons, List.findIdx?_cons, ih fun r h => hk r (List.mem_cons_of_mem _ h)]
    show (if (leafKind P w).is l r.2.1 = true then _ else _) = (if decide (r.1 = l.key) = true then _ else _)
    rw [e]
theorem raw_set_leaf {l : Leaf} {vu : Value} {Q : Unit → Shared → Prop} (x : RawD w s.heap a ep rs) (kl : KL rs) (hl : Leaf.isOf l ku = true) (hz : rs.length < sizeLine)
    (hQ : ∀ h' ep' tk, RawD w h' a ep' (putR rs l.key ku vu) → Heap.SameBut a s.heap h' → Q () { s with heap := h', toks := tk }) : wpAny (model P w) A (setItem (.ref a) ku vu) Q E s := by
  have D := x.leaf (P := P) kl
  have hT := D.typeIs
  obtain ⟨_, _, _, _, _, _, hko, _, _⟩ := id D
  obtain ⟨o, ho, hc, hd⟩ := x.at_
  have hko : KeysOf (leafKind P w) (rs.map (ent w)).toArray := fun e he => by
    obtain ⟨r, hr, rfl⟩ := List.mem_map.mp (List.mem_toArray.mp he)
    obtain ⟨h1, h2⟩ := key_toLeaf kl hr
    exact ⟨toLeaf r.1, h2, by show NestedKey.hash w r.1 = NestedKey.hash w (toLeaf r.1).key; rw [h1]⟩
  have hkey : (leafKind P w).is l ku = true := hl
  have nd2 := put_nodup (k := l.key) (ku := ku) (vu := vu) x.nd
  have sz2 : (putR rs l.key ku vu).length ≤ sizeLine := Nat.le_trans put_len hz
  unfold setItem
  try with_reducible refine wpAny_holding ?_
  refine wpAny_bind (wpAny_sequenceKey hT (by decide) ?_)
  refine wpAny_bind (wpAny_callSpecial?_slot (name := Str.ofString "__setitem__") hT slot_dict_setitem
    (wpAny_call_entry slot_dict_setitem hT entry_dict_setitem ?_ (args_dict_setitem _ _ _)))
  show wpAny _ _ (Builtin.Dict.notOrdered "__setitem__" ⟨[.ref a, ku, vu], []⟩ >>= _) _ _ s
  refine wpAny_bind (wpAny_notOrdered_dict hT ?_)
  show wpAny _ _ (dictSet a ku vu >>= _) _ _ s
  refine wpAny_bind ?_
  unfold dictSet
  try with_reducible refine wpAny_holding ?_
  refine wpAny_bind ((leafKind P w).pyHash hkey ?_)
  unfold dictSetHashed
  try with_reducible refine wpAny_holding ?_
  refine wpAny_bind (wpAny_dictFind_of (s := { s with toks := s.toks + 1 }) hkey ho hd hko ?_)
  have hidx := idx_arr (P := P) (w := w) kl l
  cases hi : idxK (rs.map (·.1)) l.key with
  | some i =>
    have hi2 : ((rs.map fun e => (⟨e.1.hash w, e.2.1, e.2.2⟩ : DictEntry)).toArray.findIdx? fun e => (leafKind P w).is l e.key) = some i := hidx.trans hi
    rw [hi2]
    refine wpAny_bind (wpAny_rule (wpAny_bind (wpAny_updateDict (s := { s with toks := s.toks + 1 }) ho hd (wpAny_point (wpAny_pure ⟨.none, rfl, wpAny_pure (hQ _ ep _ ⟨x.sys, sz2, ⟨_, Heap.get?_update_self _ ho (Obj.isFreed_of_dict (Obj.data_mapDict hd _)),
      hc.mapDict _, ?_⟩, nd2, homL_put kl⟩ (Heap.SameBut.update ..))⟩)))))
    rw [Obj.data_mapDict hd _, put_some hi, modify_map (fun e : Ent => (⟨e.1.hash w, e.2.1, e.2.2⟩ : DictEntry)) (fun r => (r.1, r.2.1, vu)) (fun e => { e with val := vu }) fun _ => rfl]
    simp
  | none =>
    have hi2 : ((rs.map fun e => (⟨e.1.hash w, e.2.1, e.2.2⟩ : DictEntry)).toArray.findIdx? fun e => (leafKind P w).is l e.key) = none := hidx.trans hi
    rw [hi2]
    refine wpAny_bind (wpAny_rule (wpAny_updateDictKeys (hz := by simp; exact Nat.le_of_lt hz) (s := { s with toks := s.toks + 1 }) ho hd (wpAny_pure ⟨.none, rfl, wpAny_pure (hQ _ (ep + 1) _ ⟨x.sys, sz2, ⟨_, Heap.get?_update_self _ ho (Obj.isFreed_of_dict (Obj.data_mapDictKeys hd _)),
      hc.mapDictKeys _, ?_⟩, nd2, homL_put kl⟩ (Heap.SameBut.update ..))⟩)))
    rw [Obj.data_mapDictKeys hd _, put_none hi, List.map_append]
    simp
    rfl
theorem put_tv (rs : List Ent) (nd : (rs.map (·.1)).Nodup) {k : NestedKey} {b : Addr} {vu : Value} : storedH (rs.map tv) k b vu = (putR rs k (.ref b) vu).map tv := by
  have e : (rs.map tv).findIdx? (fun x => decide (x.1 = k)) = idxK (rs.map (·.1)) k := by
    unfold idxK
    rw [List.findIdx?_map, List.findIdx?_map]
    rfl
  cases hi : idxK (rs.map (·.1)) k with
  | none =>
    have h0 : atKey (rs.map tv) k = none := by
      unfold atKey
      rw [find_idx, e, hi]
      rfl
    rw [storedH_new h0, put_none hi, List.map_append]
    rfl
  | some i =>
    obtain ⟨hlt, hp, _⟩ := List.findIdx?_eq_some_iff_getElem.mp (e.trans hi)
    have h0 : ∃ p, atKey (rs.map tv) k = some p := by
      unfold atKey
      rw [find_idx, e, hi]
      show ∃ p, ((rs.map tv)[i]?).map _ = some p
      rw [List.getElem?_eq_getElem hlt]
      exact ⟨_, rfl⟩
    obtain ⟨p, h0⟩ := h0
    rw [storedH_old h0, put_some hi, modify_map tv (fun r => (r.1, r.2.1, vu)) (fun y => (y.1, y.2.1, vu)) fun _ => rfl]
    have nd2 : ((rs.map tv).map (·.1)).Nodup := by rw [List.map_map]; exact nd
    have hj : (rs.map tv)[i]? = some (k, ((rs.map tv)[i]).2) := by
      rw [List.getElem?_eq_getElem hlt]
      have hk : (rs.map tv)[i].1 = k := of_decide_eq_true hp
      rw [← hk]
    have := modify_map_putAt (id : NestedKey × Addr × Value → NestedKey × Addr × Value) (fun y => (y.1, y.2.1, vu)) k vu (fun _ _ => rfl) nd2 hj
    rw [List.map_id, List.map_id] at this
    exact this.symm
theorem put_mem {rs : List Ent} {k : NestedKey} {ku vu : Value} {r : Ent} (h : r ∈ putR rs k ku vu) : (∃ r0 ∈ rs, r.1 = r0.1 ∧ r.2.1 = r0.2.1) ∨ (r.1 = k ∧ r.2.1 = ku) := by
  cases hi : idxK (rs.map (·.1)) k with
  | none =>
    rw [put_none hi] at h
    rcases List.mem_append.mp h with h | h
    · exact .inl ⟨r, h, rfl, rfl⟩
    · have e : r = (k, ku, vu) := by simpa using h
      subst e
      exact .inr ⟨rfl, rfl⟩
  | some i =>
    rw [put_some hi] at h
    obtain ⟨j, hj, rfl⟩ := List.mem_iff_getElem.mp h
    rw [List.length_modify] at hj
    refine .inl ⟨rs[j], List.getElem_mem hj, ?_⟩
    rw [List.getElem_modify]
    split <;> exact ⟨rfl, rfl⟩
theorem raw_set_heap {b : Addr} {vu : Value} {Q : Unit → Shared → Prop} (hu : A.in1.units + 8 < cLine) (x : RawD w s.heap a ep rs) (kt : KT s.heap rs) (hb : NestedIs s.heap k (.ref b)) (dp : k.depth ≤ 8) (hz : rs.length < sizeLine)
    (hQ : ∀ h' ep' tk, RawD w h' a ep' (putR rs k (.ref b) vu) → Heap.SameBut a s.heap h' → Q () { s with heap := h', toks := tk }) : wpAny (model P w) A (setItem (.ref a) (.ref b) vu) Q E s := by
  have H := x.heap (P := P) kt
  refine wpAny_setItem_heap (knd := nestedKind P w) (hsz := by rw [List.length_map]; exact Nat.le_of_lt hz) hu ⟨hb, dp⟩ H fun h' hm hs => ?_
  rw [put_tv rs x.nd] at hm
  obtain ⟨o, es, ep', ho, hc, hd, he, hi, hn⟩ := hm
  refine hQ h' ep' _ ⟨x.sys, Nat.le_trans put_len hz, ⟨o, ho, hc, ?_⟩, put_nodup x.nd, homT_put kt hb dp⟩ hs
  rw [hd]
  have e2 : es = ((putR rs k (.ref b) vu).map fun e => (⟨e.1.hash w, e.2.1, e.2.2⟩ : DictEntry)).toArray := by
    rw [← Array.toList_inj, he, List.map_map]
    show _ = List.map _ _
    refine List.map_congr_left fun r hr => ?_
    show (⟨r.1.hash w, .ref (adr r.2.1), r.2.2⟩ : DictEntry) = ⟨r.1.hash w, r.2.1, r.2.2⟩
    have e3 : ∃ c, r.2.1 = .ref c := by
      rcases put_mem hr with ⟨r0, h0, e1, e2⟩ | ⟨e1, e2⟩
      · obtain ⟨c, ec, _⟩ := kt r0 h0
        exact ⟨c, e2.trans ec⟩
      · exact ⟨b, e2⟩
    obtain ⟨c, ec⟩ := e3
    rw [ec]
    rfl
  rw [e2]
theorem raw_set {vu : Value} {Q : Unit → Shared → Prop} (hu : A.in1.units + 8 < cLine) (x : RawD w s.heap a ep rs) (hk : KeyFor s.heap rs k ku) (hz : rs.length < sizeLine)
    (hQ : ∀ h' ep' tk, RawD w h' a ep' (putR rs k ku vu) → Heap.SameBut a s.heap h' → Q () { s with heap := h', toks := tk }) : wpAny (model P w) A (setItem (.ref a) ku vu) Q E s := by
  rcases hk with ⟨kl, l, rfl, hl⟩ | ⟨kt, b, rfl, hb, dp⟩
  · exact raw_set_leaf x kl hl hz hQ
  · exact raw_set_heap hu x kt hb dp hz hQ
end
end Rh

set_option Elab.async false
set_option linter.all false
set_option maxRecDepth 100000
set_option maxHeartbeats 2000000
set_option autoImplicit false
namespace Rh
open PySem PySem.Spec PyProof.Rows L2
variable [Tbs]
/-! ### dicts, in the hand layer -/
def okK (ks : List NestedKey) (k : NestedKey) : Bool := match ks with
  | [] => leafK k || decide (k.depth ≤ 8)
  | x :: _ => (leafK k && leafK x) || (!leafK k && !leafK x && decide (k.depth ≤ 8))
theorem okK_hom {ks : List NestedKey} {k : NestedKey} (h : homK ks = true) (ok : okK ks k = true) : (leafK k = true ∧ ks.all leafK = true) ∨ (leafK k = false ∧ k.depth ≤ 8 ∧ (ks.all fun x => !leafK x && decide (x.depth ≤ 8)) = true) := by
  cases ks with
  | nil =>
    unfold okK at ok
    cases hk : leafK k with
    | true => exact .inl ⟨rfl, rfl⟩
    | false => rw [hk] at ok; simp at ok; exact .inr ⟨rfl, ok, rfl⟩
  | cons x r =>
    have ok : (leafK k && leafK x || !leafK k && !leafK x && decide (k.depth ≤ 8)) = true := ok
    unfold homK at h
    rw [Bool.or_eq_true] at h
    cases hx : leafK x with
    | true =>
      rw [hx] at ok
      simp at ok
      rcases h with h | h
      · exact .inl ⟨ok, h⟩
      · rw [List.all_cons, hx] at h; simp at h
    | false =>
      rw [hx] at ok
      simp at ok
      rcases h with h | h
      · rw [List.all_cons, hx] at h; simp at h
      · exact .inr ⟨ok.1, ok.2, h⟩
def idxD (nks : List NestedKey) (kd : D) : Option (Option Nat) := match keyD kd with
  | some nk => if okK nks nk = true then some (fIdx nk nks 0) else none
  | none => none
theorem idxD_some {nks : List NestedKey} {kd : D} {o : Option Nat} (h : idxD nks kd = some o) : ∃ nk, keyD kd = some nk := by
  unfold idxD at h
  cases e : keyD kd with
  | none => rw [e] at h; cases h
  | some nk => exact ⟨nk, rfl⟩
section
variable {X : Cx} {pins : List (Addr × Obj)} {σ : L2.St} {H : Hp} {μ : Mu} {s : Shared}
mutual
theorem nested_of (I : L2.Inv X pins σ H s) : ∀ (d : D) (x : V) (k : NestedKey) (u : Value), RepV (ctX X) μ H d x → keyD d = some k → RelV x u → NestedIs s.heap k u
  | .non, x, k, u, r, e, ru => by cases e; cases (show x = .non from r); cases ru; exact .none
  | .bl b, x, k, u, r, e, ru => by cases e; cases (show x = .bl b from r); cases ru; exact .bool rfl
  | .int i, x, k, u, r, e, ru => by cases e; cases (show x = .int i from r); obtain ⟨t, rfl⟩ := ru; exact .int _ _
  | .str i, x, k, u, r, e, ru => by cases e; cases (show x = .str i from r); obtain ⟨t, rfl⟩ := ru; exact .text _ _
  | .tup ds, x, k, u, ⟨a, vs, ex, t, q⟩, e, ru => by
    subst ex
    cases ru
    obtain ⟨ks, e1, rfl⟩ := Option.map_eq_some_iff.mp (show (keysD ds).map NestedKey.tup = some k from e)
    obtain ⟨its, rv, ⟨o, ho, hc, n, hd⟩, hz⟩ := I.tuple t.sq
    exact .tup ho hc hd (by simpa using nesteds_of I ds vs ks its q e1 rv)
  | .box _, _, _, _, _, e, _ => nomatch e
  | .gl _, _, _, _, _, e, _ => nomatch e
  | .ty _, _, _, _, _, e, _ => nomatch e
  | .scr _, _, _, _, _, e, _ => nomatch e
theorem nesteds_of (I : L2.Inv X pins σ H s) : ∀ (ds : List D) (xs : List V) (ks : List NestedKey) (us : List Value), RepL (ctX X) μ H ds xs → keysD ds = some ks → Vals xs us → NestedAll s.heap ks us
  | [], xs, ks, us, r, e, ru => by cases e; rw [show xs = [] from r] at ru; cases ru; exact .nil
  | d :: ds, xs, ks, us, ⟨v, rr, ex, h1, h2⟩, e, ru => by
    subst ex
    have e : (match keyD d, keysD ds with
      | some k, some ks => some (k :: ks)
      | _, _ => none) = some ks := e
    cases e1 : keyD d with
    | none => rw [e1] at e; cases e
    | some k0 =>
      cases e2 : keysD ds with
      | none => rw [e1, e2] at e; cases e
      | some ks0 =>
        rw [e1, e2] at e; cases e
        cases ru with
        | cons ra rb => exact .cons (nested_of I d v k0 _ h1 e1 ra) (nesteds_of I ds rr ks0 _ h2 e2 rb)
end
theorem leaf_of {h : Heap} {k : NestedKey} {u : Value} (n : NestedIs h k u) (l : leafK k = true) : ∃ lf : Leaf, lf.key = k ∧ Leaf.isOf lf u = true := by
  cases n with
  | none => exact ⟨.none, rfl, rfl⟩
  | bool e => exact ⟨.num _, rfl, decide_eq_true e.symm⟩
  | int i t => exact ⟨.num i, rfl, decide_eq_true rfl⟩
  | text x t => exact ⟨.text x, rfl, by show Value.isStrOf x (.str x t) = true; simp [Value.isStrOf]⟩
  | tup _ _ _ _ => cases l
theorem tup_of {h : Heap} {k : NestedKey} {u : Value} (n : NestedIs h k u) (l : leafK k = false) : ∃ b, u = .ref b := by
  cases n with
  | tup _ _ _ _ => exact ⟨_, rfl⟩
  | _ => cases l
/-- the entries as they stand -/
def EntR (e : NestedKey × V × V) (r : Ent) : Prop := r.1 = e.1 ∧ RelV e.2.1 r.2.1 ∧ RelV e.2.2 r.2.2
theorem paired_keys {es : List (NestedKey × V × V)} {rs : List Ent} (p : Paired EntR es rs) : rs.map (·.1) = es.map (·.1) := by
  induction p with
  | nil => rfl
  | cons h _ ih => rw [List.map_cons, List.map_cons, ih, h.1]
theorem raw_of {w : World} {h : Heap} {a : Addr} {es : List (NestedKey × V × V)} : ∀ {ents : List DictEntry}, Paired (fun (e : NestedKey × V × V) (d : DictEntry) => d.hash = e.1.hash w ∧ RelV e.2.1 d.key ∧ RelV e.2.2 d.val) es ents →
    ∃ rs : List Ent, ents = rs.map (fun e => (⟨e.1.hash w, e.2.1, e.2.2⟩ : DictEntry)) ∧ Paired EntR es rs := fun {ents} p => by
  induction p with
  | nil => exact ⟨[], rfl, .nil⟩
  | @cons e d es ds h _ ih =>
    obtain ⟨rs, e1, p1⟩ := ih
    refine ⟨(e.1, d.key, d.val) :: rs, ?_, .cons ⟨rfl, h.2.1, h.2.2⟩ p1⟩
    rw [List.map_cons, ← e1]
    obtain ⟨h1, h2, h3⟩ := d
    have q := h.1
    dsimp only at q
    rw [q]
theorem dict_raw (I : L2.Inv X pins σ H s) {a : Addr} {es : Nat × List (NestedKey × V × V)} (e : H a = some (DicO X.w a es)) : ∃ rs, RawD X.w s.heap a es.1 rs ∧ Paired EntR es.2 rs := by
  have x : ObjOk X.prog X.w H s.heap a (.ext fun h => (a == sysModules) = false ∧ es.2.length ≤ sizeLine ∧ ∃ (o : Obj) (ents : Array DictEntry), h.get? a = some o ∧ o.ExactDict ∧ o.data = .dict ents es.1 ∧
    Paired (fun (e : NestedKey × V × V) (d : DictEntry) => d.hash = e.1.hash X.w ∧ RelV e.2.1 d.key ∧ RelV e.2.2 d.val) es.2 ents.toList ∧ (es.2.map (·.1)).Nodup ∧ homK (es.2.map (·.1)) = true) := I.hok a _ e
  obtain ⟨⟨h1, h2, o, ents, ho, hc, hd, hp, nd, hom⟩, _⟩ := x
  obtain ⟨rs, e1, p⟩ := raw_of (h := s.heap) (a := a) hp
  refine ⟨rs, ⟨h1, by rw [← Paired.length p]; exact h2, ⟨o, ho, hc, by rw [hd, ← e1]⟩, by rw [paired_keys p]; exact nd, by rw [paired_keys p]; exact hom⟩, p⟩
theorem dict_ok {P : Program} {w : World} {h : Heap} {a : Addr} {ep : Nat} {rs : List Ent} {es : List (NestedKey × V × V)} (x : RawD w h a ep rs) (p : Paired EntR es rs) : ObjOk P w H h a (DicO w a (ep, es)) := by
  obtain ⟨o, ho, hc, hd⟩ := x.at_
  refine ⟨⟨x.sys, by rw [Paired.length p]; exact x.sz, o, _, ho, hc, hd, ?_, by rw [← paired_keys p]; exact x.nd, by rw [← paired_keys p]; exact x.hom⟩, ⟨o, ho⟩, fun h1 h2 ⟨q1, q2, o, ents, ho, r⟩ k => ⟨q1, q2, o, ents, k o ho, r⟩⟩
  clear ho hd x
  induction p with
  | nil => exact .nil
  | cons h _ ih => exact .cons ⟨congrArg (NestedKey.hash w) h.1, h.2.1, h.2.2⟩ ih
theorem key_for (I : L2.Inv X pins σ H s) {rs : List Ent} (hom : homK (rs.map (·.1)) = true) {nks : List NestedKey} {ks : List D} {kd : D} {es : List (NestedKey × V × V)} {kx : V} {ku : Value} {o : Option Nat} (hn : es.map (·.1) = nks) (hk : keysD ks = some nks) (rk : RepL (ctX X) μ H ks (es.map (·.2.1))) (p : Paired EntR es rs)
    (rx : RepV (ctX X) μ H kd kx) (ru : RelV kx ku) (e : idxD nks kd = some o) : ∃ nk, keyD kd = some nk ∧ KeyFor s.heap rs nk ku ∧ idxK (rs.map (·.1)) nk = o := by
  subst hn
  unfold idxD at e
  cases ek : keyD kd with
  | none => rw [ek] at e; cases e
  | some nk =>
    rw [ek] at e
    dsimp only at e
    split at e
    · rename_i ok
      cases e
      have n1 := nested_of I kd kx nk ku rx ek ru
      have vs : Vals (es.map (·.2.1)) (rs.map (·.2.1)) := by
        clear hk rk ok hom
        induction p with
        | nil => exact .nil
        | cons h _ ih => exact .cons h.2.1 ih
      have n2 := nesteds_of I ks _ _ _ rk hk vs
      have each : ∀ r ∈ rs, NestedIs s.heap r.1 r.2.1 := by
        rw [← paired_keys p] at n2
        clear vs rk hk ok hom p
        induction rs with
        | nil => exact fun _ h => nomatch h
        | cons r rs ih =>
          cases n2 with
          | cons q1 q2 =>
            intro r' hr
            rcases List.mem_cons.mp hr with rfl | hr
            · exact q1
            · exact ih q2 r' hr
      refine ⟨nk, rfl, ?_, by rw [paired_keys p, fIdx_zero]⟩
      rw [← paired_keys p] at ok
      rcases okK_hom hom ok with ⟨l1, l2⟩ | ⟨l1, dp, l3⟩
      · exact .inl ⟨fun r hr => leaf_of (each r hr) (List.all_eq_true.mp l2 r.1 (List.mem_map.mpr ⟨r, hr, rfl⟩)), leaf_of n1 l1⟩
      · refine .inr ⟨fun r hr => ?_, ?_⟩
        · have q := List.all_eq_true.mp l3 r.1 (List.mem_map.mpr ⟨r, hr, rfl⟩)
          obtain ⟨q1, q2⟩ := Bool.and_eq_true _ _ |>.mp q
          have n := each r hr
          obtain ⟨b, eb⟩ := tup_of n (by simpa using q1)
          rw [eb] at n
          exact ⟨b, eb, n, of_decide_eq_true q2⟩
        · obtain ⟨b, eb⟩ := tup_of n1 l1
          rw [eb] at n1
          exact ⟨b, eb, n1, dp⟩
    · cases e
end
end Rh

set_option Elab.async false
set_option linter.all false
set_option maxRecDepth 100000
set_option maxHeartbeats 2000000
set_option autoImplicit false
namespace Rh
open PySem PySem.Spec PyProof.Rows L2
variable [Tbs]
def rIxD (C : Ct) : R2 := fun x y H Q => ∃ (μ : Mu) (a : Addr) (nks : List NestedKey) (ks vs : List D) (kd : D) (i : Nat) (dv : D), x = .ref a ∧ ObR C μ H a (.dct nks ks vs) ∧ RepV C μ H kd y ∧ idxD nks kd = some (some i) ∧ vs[i]? = some dv ∧ ∀ v, RepV C μ H dv v → Q v H
/-- len(d) -/
def rLenD (C : Ct) : List V → Hp → VK → Prop := fun xs H Q => ∃ (μ : Mu) (a : Addr) (nks : List NestedKey) (ks vs : List D), xs = [.ref a] ∧ ObR C μ H a (.dct nks ks vs) ∧ Q (.int ks.length) H
theorem getR_at {rs : List Ent} {es : List (NestedKey × V × V)} {k : NestedKey} {i : Nat} {e : NestedKey × V × V} (p : Paired EntR es rs) (h : idxK (rs.map (·.1)) k = some i) (he : es[i]? = some e) : ∃ u, getR rs k = some u ∧ RelV e.2.2 u := by
  unfold getR
  rw [h]
  show ∃ u, (rs[i]?).map (·.2.2) = some u ∧ _
  clear h
  induction p generalizing i with
  | nil => cases he
  | @cons e0 r es rs h0 _ ih =>
    cases i with
    | zero => cases he; exact ⟨_, rfl, h0.2.2⟩
    | succ i => exact ih he
section
variable {X : Cx}
theorem ix_dct (hu : X.A.units + 65 < cLine) : IxR X (rIxD (ctX X)) := by
  intro value slice pins s σ H x y v u Q I rx ry h hs
  obtain ⟨μ, a, nks, ks, vs, kd, i, dv, rfl, ⟨es, ea, en, ek, rk, rv⟩, ry', ei, ev, q⟩ := h
  cases rx
  obtain ⟨rs, x, p⟩ := dict_raw I ea
  obtain ⟨nk, e1, kf, hi⟩ := key_for I x.hom en ek rk p ry' ry ei
  obtain ⟨vv, e2, rvv⟩ := rv.get ev
  rw [List.getElem?_map] at e2
  obtain ⟨ent, e3, rfl⟩ := Option.map_eq_some_iff.mp e2
  obtain ⟨u2, hg, ru2⟩ := getR_at p hi e3
  have hT : s.TypeIs (.ref a) "dict" := by
    obtain ⟨o, ho, hc, _⟩ := x.at_
    exact ⟨o, ho, hc.1⟩
  refine subscriptTail_builtinR (x := u2) hT slot_dict_getitem.lookup ?_ hs
  exact raw_get (by show X.A.units + 1 + 8 < cLine; omega) x kf hg fun tk => ⟨rfl, ⟨_, H, I.tok _, ru2, q _ rvv⟩⟩
theorem call_lenD : CallR X (.builtin "len") (rLenD (ctX X)) := by
  intro pins s σ H xs us Q I r h
  obtain ⟨μ, a, nks, ks, vs, rfl, ⟨es, ea, en, ek, rk, rv⟩, q⟩ := h
  obtain ⟨u, rfl, rx⟩ := vals1 r
  cases rx
  obtain ⟨rs, x, p⟩ := dict_raw I ea
  obtain ⟨o, ho, hc, hd⟩ := x.at_
  have hl : rs.length = ks.length := by
    rw [← Paired.length p, ← rk.length, List.length_map]
  have hn := line63
  have hz := x.sz
  refine call_len_slot (n := (ks.length : Int)) (show s.TypeIs (.ref a) "dict" from ⟨o, ho, hc.1⟩) F.slot_dict_len (fun Q' hq => call_len_raw x.sys ⟨o, ho, hc, hd⟩ ?_) (by omega) (by omega) ⟨.int ks.length, H, I.tok _, ⟨_, rfl⟩, q⟩
  rw [List.size_toArray, List.length_map, hl]
  exact hq
theorem CallR.or {f : Value} {r1 r2 : List V → Hp → VK → Prop} (h1 : CallR X f r1) (h2 : CallR X f r2) : CallR X f (fun xs H Q => r1 xs H Q ∨ r2 xs H Q) := fun pins s σ H xs us Q I r h => by
  rcases h with h | h
  · exact h1 pins s σ H xs us Q I r h
  · exact h2 pins s σ H xs us Q I r h
theorem OpR.or' {f : Value → Value → Sem Value} {r1 r2 : R2} (h1 : OpR X f r1) (h2 : OpR X f r2) : OpR X f (fun x y H Q => r1 x y H Q ∨ r2 x y H Q) := fun pins s σ H x y v u Q I rx ry h => by
  rcases h with h | h
  · exact h1 pins s σ H x y v u Q I rx ry h
  · exact h2 pins s σ H x y v u Q I rx ry h
theorem IxR.or' {r1 r2 : R2} (h1 : IxR X r1) (h2 : IxR X r2) : IxR X (fun x y H Q => r1 x y H Q ∨ r2 x y H Q) := fun va sl pins s σ H x y v u Q I rx ry h hs => by
  rcases h with h | h
  · exact h1 va sl pins s σ H x y v u Q I rx ry h hs
  · exact h2 va sl pins s σ H x y v u Q I rx ry h hs
end
/-! covers -/
section
variable {C : Ct} {L : List Nat}
theorem HR.dctO {μ : Mu} {H : Hp} {h : Hs} (r : HR C L μ H h) {n : Nat} {x : V} {nks : List NestedKey} {ks vs : List D} (q : RepV C μ H (.box n) x) (e : h.get n = some (.dct nks ks vs)) : ∃ a, x = .ref a ∧ μ[n]? = some a ∧ ObR C μ H a (.dct nks ks vs) := by
  obtain ⟨a, o, e1, m, e2, ob⟩ := r.box q
  rw [e] at e2; cases e2
  exact ⟨a, e1, m, ob⟩
def dIxD (h : Hs) (d e : D) : Option Nv := match d with
  | .box n => (match h.get n with
    | some (.dct nks _ vs) => (match idxD nks e with
      | some (some i) => (vs[i]?).map .v
      | _ => none)
    | _ => none)
  | _ => none
theorem cov_ixD : Cov2 C (rIxD C) dIxD := by
  intro H L μ h x y d e n Q hr r1 r2 hf want
  unfold dIxD at hf
  split at hf
  · split at hf
    · rename_i e0
      split at hf
      · rename_i i ei
        obtain ⟨dv, ev, rfl⟩ := Option.map_eq_some_iff.mp hf
        obtain ⟨a, rfl, _, ob⟩ := hr.dctO r1 e0
        exact ⟨μ, a, _, _, _, e, i, dv, rfl, ob, r2, ei, ev, fun v rv => want.old rv⟩
      · cases hf
    · cases hf
  · cases hf
def dLenD (h : Hs) (ds : List D) : Option Nv := match ds with
  | [.box n] => (match h.get n with
    | some (.dct _ ks _) => some (.v (.int ks.length))
    | _ => none)
  | _ => none
theorem cov_lenD : CovA C (rLenD C) dLenD := by
  intro H L μ h xs ds n Q hr r hf want
  unfold dLenD at hf
  split at hf
  · split at hf
    · rename_i e0
      cases hf
      obtain ⟨x, rfl, h1⟩ := r.one
      obtain ⟨a, rfl, _, ob⟩ := hr.dctO h1 e0
      exact ⟨μ, a, _, _, _, rfl, ob, want.old rfl⟩
    · cases hf
  · cases hf
end
/-! ### {} , d[k] = v -/
abbrev EV := NestedKey × V × V
def putV (es : List EV) (o : Option Nat) (nk : NestedKey) (kx v : V) : List EV := match o with
  | some j => es.modify j fun e => (e.1, e.2.1, v)
  | none => es ++ [(nk, kx, v)]
theorem paired_modify {α β : Type} {R : α → β → Prop} {f : α → α} {g : β → β} (h : ∀ a b, R a b → R (f a) (g b)) : ∀ {xs : List α} {ys : List β} (i : Nat), Paired R xs ys → Paired R (xs.modify i f) (ys.modify i g)
  | _, _, i, .nil => by simpa using Paired.nil
  | _, _, 0, .cons a t => by simpa using Paired.cons (h _ _ a) t
  | _, _, i + 1, .cons a t => by simpa using Paired.cons a (paired_modify h i t)
theorem paired_snoc {α β : Type} {R : α → β → Prop} {a : α} {b : β} (h : R a b) : ∀ {xs : List α} {ys : List β}, Paired R xs ys → Paired R (xs ++ [a]) (ys ++ [b])
  | _, _, .nil => .cons h .nil
  | _, _, .cons q t => .cons q (paired_snoc h t)
theorem put_paired {es : List EV} {rs : List Ent} {nk : NestedKey} {o : Option Nat} {kx v : V} {ku vu : Value} (p : Paired EntR es rs) (hi : idxK (rs.map (·.1)) nk = o) (rk : RelV kx ku) (rv : RelV v vu) : Paired EntR (putV es o nk kx v) (putR rs nk ku vu) := by
  cases o with
  | none => rw [put_none hi]; exact paired_snoc ⟨rfl, rk, rv⟩ p
  | some i => rw [put_some hi]; exact paired_modify (fun a b q => ⟨q.1, q.2.1, rv⟩) i p
theorem modify_const {α : Type} (v : α) : ∀ (xs : List α) (i : Nat), xs.modify i (fun _ => v) = xs.set i v
  | [], i => by simp
  | x :: xs, 0 => by simp
  | x :: xs, i + 1 => by simp [modify_const v xs i]
/-- d[k] = v, at the heap: the entries behind it -/
def tSetD (C : Ct) : V → V → V → Hp → (Hp → Prop) → Prop := fun o i v H Q => ∃ (μ : Mu) (a : Addr) (es : Nat × List EV) (nks : List NestedKey) (ks : List D) (kd : D) (nk : NestedKey) (op : Option Nat), o = .ref a ∧ H a = some (DicO C.w a es) ∧ es.2.map (·.1) = nks ∧ keysD ks = some nks ∧ RepL C μ H ks (es.2.map (·.2.1)) ∧
  RepV C μ H kd i ∧ keyD kd = some nk ∧ idxD nks kd = some op ∧ ks.length < 1000000 ∧ ∀ ep', Q (upd H a (DicO C.w a (ep', putV es.2 op nk i v)))
section
variable {X : Cx}
theorem set_dct (hu : X.A.units + 65 < cLine) : PSet X (tSetD (ctX X)) := by
  intro pins s σ H o i v ov iv u Q I ro ri rv h
  obtain ⟨μ, a, es, nks, ks, kd, nk, op, rfl, ea, en, ek, rk, rx, ekd, ei, hl, q⟩ := h
  cases ro
  obtain ⟨rs, x, p⟩ := dict_raw I ea
  obtain ⟨nk', e1, kf, hi⟩ := key_for I x.hom en ek rk p rx ri ei
  rw [ekd] at e1; cases e1
  have hlen : rs.length = ks.length := by
    rw [← Paired.length p, ← rk.length, List.length_map]
  refine raw_set (by show X.A.units + 1 + 8 < cLine; omega) x kf (by rw [hlen, sizeLine_eq]; omega) fun h' ep' tk x' sb => ?_
  obtain ⟨o', ho', _⟩ := x'.at_
  exact ⟨_, I.write (t' := tk) (x := a) (e := a) (by rw [ea]; exact True.intro) (.inl rfl) (fun b ob hb e => (sb.2 b hb).trans e) ⟨o', ho'⟩ (dict_ok x' (put_paired p hi ri rv)), q ep'⟩
theorem PSet.or' {t1 t2 : TSet} (h1 : PSet X t1) (h2 : PSet X t2) : PSet X (fun o i v H Q => t1 o i v H Q ∨ t2 o i v H Q) := fun pins s σ H o i v ov iv u Q I ro ri rv h => by
  rcases h with h | h
  · exact h1 pins s σ H o i v ov iv u Q I ro ri rv h
  · exact h2 pins s σ H o i v ov iv u Q I ro ri rv h
end
end Rh

set_option Elab.async false
set_option linter.all false
set_option maxRecDepth 100000
set_option maxHeartbeats 2000000
set_option autoImplicit false
namespace Rh
open PySem PySem.Spec PyProof.Rows L2
variable [Tbs]
/-! ### a dict walked -/
def Itq (w : World) (a : Addr) (es : Nat × List EV) : It := ⟨fun i H => H a = some (DicO w a es) ∧ i < es.2.length, fun i H x H' => H' = H ∧ ∃ e, es.2[i]? = some e ∧ x = e.2.1, fun i H => H a = some (DicO w a es) ∧ es.2.length ≤ i⟩
theorem paired_get {es : List EV} {rs : List Ent} {i : Nat} {r : Ent} (p : Paired EntR es rs) (e : rs[i]? = some r) : ∃ x, es[i]? = some x ∧ EntR x r := by
  induction p generalizing i with
  | nil => simp at e
  | cons h _ ih =>
    cases i with
    | zero => simp at e; subst e; exact ⟨_, rfl, h⟩
    | succ i => exact ih (by simpa using e)
theorem turn_dct {P : Program} {w : World} {K : PySem.W.Frag} {tg : Expr} (it a : Addr) (es : Nat × List EV) : Turn P w K tg (Itq w a es) [it] it (fun i h => h.IsKeyIter it a i es.2.length es.1) where
  mem := by simp
  obj := fun i h st b hb => by
    have e : b = it := by simpa using hb
    subst e
    obtain ⟨oi, e, c, dd⟩ := st
    exact ⟨oi, e, fun v z => by rw [dd] at z; cases z⟩
  keep := fun i h h' st k => st.at fun oi e => k it (by simp) oi e
  item := by
    intro X hP hw hK hc i pins s σ H E I hf st hg
    subst hP hw hK
    obtain ⟨hd, hi⟩ := hg
    obtain ⟨f0, f1, f2, f3, f4, f5⟩ := hf it (by simp)
    obtain ⟨rs, x, p⟩ := dict_raw I hd
    obtain ⟨o, ho, hx, hdt⟩ := x.at_
    have hl := Paired.length p
    have hr : i < rs.length := by omega
    obtain ⟨e, he, q1, q2, q3⟩ := paired_get p (List.getElem?_eq_getElem hr)
    have hsz : (rs.map fun e => (⟨e.1.hash X.w, e.2.1, e.2.2⟩ : DictEntry)).toArray.size = es.2.length := by simp [hl]
    refine next_key_item (en := ⟨rs[i].1.hash X.w, rs[i].2.1, rs[i].2.2⟩) st ho hdt hsz (by simp [List.getElem?_eq_getElem hr]) fun h' st' sb => ?_
    have I1 : L2.Inv X pins σ H { s with heap := h' } := I.turned (t' := s.toks) (fun b ob hb e => (sb.2 b hb).trans e) f0 f1 f3 f4 f5
    obtain ⟨oi, e1, c, dd⟩ := id st'
    exact ⟨rs[i].2.1, rfl, go_of (s := { s with heap := h' }) e1 c dd (by decide) ⟨e.2.1, H, I1, q2, ⟨rfl, e, he, rfl⟩, st', fun b hb => (hf b hb).1⟩⟩
  done := by
    intro X hP hw hK hc i pins s σ H E I hf st hg
    subst hP hw hK
    obtain ⟨hd, hi⟩ := hg
    obtain ⟨f0, f1, f2, f3, f4, f5⟩ := hf it (by simp)
    obtain ⟨rs, x, p⟩ := dict_raw I hd
    obtain ⟨o, ho, hx, hdt⟩ := x.at_
    have hl := Paired.length p
    have hsz : (rs.map fun e => (⟨e.1.hash X.w, e.2.1, e.2.2⟩ : DictEntry)).toArray.size = es.2.length := by simp [hl]
    exact next_key_end (I.ok.hd hc) st ho hdt hsz hi fun h' eb => ⟨rfl, I.turned (t' := s.toks) (fun b ob hb e => eb b ob hb e) f0 f1 f3 f4 f5⟩
  self := fun A i s Q E st h => wpAny_pyIter_keyiter st h
def iSeqD (w : World) (K : PySem.W.Frag) (tl : TE) : TI := fun σ H R => tl σ H fun x H1 => ∃ a, x = .ref a ∧ (((∃ xs, SqL K H1 a xs) ∧ R (Itl K a) H1) ∨ ((∃ xs, SqT K H1 a xs) ∧ R (Itt K a) H1) ∨ ∃ es, H1 a = some (DicO w a es) ∧ R (Itq w a es) H1)
section
variable {X : Cx} {W : WX} {tg : Expr}
theorem pi_seqD {l : Expr} {tl : TE} (hl : PE X l tl) : PI X tg l (iSeqD X.w X.K tl) := by
  refine ⟨fun pins s σ H R I h => ?_⟩
  refine thn (hl.run pins s σ H _ I h) fun v s1 ⟨x, H1, I1, r1, q1⟩ => ?_
  obtain ⟨a, e, q⟩ := q1
  subst e
  cases r1
  rcases q with ⟨⟨xs, hq⟩, q⟩ | ⟨⟨xs, hq⟩, q⟩ | ⟨es, hd, q⟩
  · obtain ⟨its, rv, p, hz⟩ := I1.list hq
    exact wpAny_pyIter_list p.isList (pi_one (tk := s1.toks) I1 _ (turn_list a _) ⟨_, Heap.get?_push_size _ rfl, rfl, rfl⟩ q)
  · obtain ⟨its, rv, p, hz⟩ := I1.tuple hq
    exact wpAny_pyIter_tuple (show s1.heap.IsTuple a its.toArray from p) (pi_one (tk := s1.toks) I1 _ (turn_tuple a _) ⟨_, Heap.get?_push_size _ rfl, rfl, rfl⟩ q)
  · obtain ⟨rs, x, p⟩ := dict_raw I1 hd
    obtain ⟨o, ho, hx, hdt⟩ := x.at_
    have hl := Paired.length p
    refine iter_keys x.sys ho hx hdt (pi_one (tk := s1.toks) I1 _ (turn_dct _ a es) ⟨_, Heap.get?_push_size _ rfl, rfl, ?_⟩ q)
    rw [hl]
    simp
end
section
variable {X : Cx}
/-! list(d) -/
def rListD (w : World) (K : PySem.W.Frag) : List V → Hp → VK → Prop := fun xs H Q => ∃ (a : Addr) (es : Nat × List EV), xs = [.ref a] ∧ H a = some (DicO w a es) ∧ ∀ p, H p = none → Q (.ref p) (upd H p (.lst (es.2.map (·.2.1))))
theorem call_listD (hc : X.calm = true) : CallR X (.type "list") (rListD X.w X.K) := by
  intro pins s σ H xs us Q I r h
  obtain ⟨a, es, rfl, ea, q⟩ := h
  obtain ⟨u, rfl, rx⟩ := vals1 r
  cases rx
  obtain ⟨rs, x, p⟩ := dict_raw I ea
  obtain ⟨o, ho, hx, hdt⟩ := x.at_
  have hl := Paired.length p
  have hz := x.sz
  refine PySem.W.kdl_call (PySem.KdlSrc.rawDict (es := (rs.map fun e => (⟨e.1.hash X.w, e.2.1, e.2.2⟩ : DictEntry)).toArray) (ep := es.1) x.sys) (I.ok.hd hc) ⟨o, ho, hx, hdt⟩ (by simpa using hz) fun h' tk acc' c' hkeep hS hacc => ?_
  refine ⟨.ref s.heap.objs.size, upd H s.heap.objs.size (.lst (es.2.map (·.2.1))), I.laid hkeep (Nat.le_refl _) (show ObjOk X.prog X.w _ _ _ (.lst (es.2.map (·.2.1))) from ⟨?_, acc'.toList, c', ?_, ?_⟩), rfl, q _ (I.hok.fresh (Nat.le_refl _))⟩
  · rw [List.length_map, hl]; exact hz
  · have el : acc'.toList.length = acc'.size := by simp
    refine vals_of_at (by rw [List.length_map, el, hacc.1, hl]; simp) fun j y w h1 h2 => ?_
    obtain ⟨hj, ew⟩ := hacc.2 j w (by rw [← Array.getElem?_toList]; exact h2)
    subst ew
    rw [List.getElem?_map] at h1
    obtain ⟨e, he, rfl⟩ := Option.map_eq_some_iff.mp h1
    have hj2 : j < rs.length := by simpa using hj
    obtain ⟨e', he', q1, q2, q3⟩ := paired_get p (List.getElem?_eq_getElem hj2)
    rw [he] at he'; cases he'
    simpa using q2
  · rw [Array.toArray_toList]; exact hS
end

/-! ### stores -/
def putD (h : Hs) (c k d : D) : Option Hs := match c with
  | .box n => match h.get n with
    | some (.lst ds) => (match k with
      | .int j => (match ixN ds.length j with
        | some i => h.set n (.lst (ds.set i d))
        | none => none)
      | _ => none)
    | some (.dct nks ks vs) => (match idxD nks k with
      | some (some j) => if ks.length < 1000000 then h.set n (.dct nks ks (vs.set j d)) else none
      | some none => (match keyD k with
        | some nk => if ks.length < 1000000 then h.set n (.dct (nks ++ [nk]) (ks ++ [k]) (vs ++ [d])) else none
        | none => none)
      | none => none)
    | _ => none
  | _ => none
theorem keysD_snoc : ∀ {ks : List D} {kd : D} {nks : List NestedKey} {nk : NestedKey}, keysD ks = some nks → keyD kd = some nk → keysD (ks ++ [kd]) = some (nks ++ [nk])
  | [], kd, nks, nk, h1, h2 => by
    cases h1
    show (match keyD kd, keysD [] with
      | some k, some ks => some (k :: ks)
      | _, _ => none) = _
    rw [h2]
    rfl
  | d :: ks, kd, nks, nk, h1, h2 => by
    have h1 : (match keyD d, keysD ks with
      | some k, some ks => some (k :: ks)
      | _, _ => none) = some nks := h1
    show (match keyD d, keysD (ks ++ [kd]) with
      | some k, some ks => some (k :: ks)
      | _, _ => none) = _
    cases e1 : keyD d with
    | none => rw [e1] at h1; cases h1
    | some k0 =>
      cases e2 : keysD ks with
      | none => rw [e1, e2] at h1; cases h1
      | some ks0 =>
        rw [e1, e2] at h1; cases h1
        rw [keysD_snoc e2 h2]
        rfl
theorem stay_upd {C : Ct} {L : List Nat} {μ : Mu} {H : Hp} {h : Hs} (r : HR C L μ H h) {a : Addr} {n : Nat} (m : μ[n]? = some a) (o : HO) : Stay μ H μ (upd H a o) := by
  have ma : a ∈ μ := List.mem_of_getElem? m
  exact ⟨fun _ _ e => e, fun b xs e => by rw [upd_ne (fun z => by subst z; exact r.not_mem e (fun q => q) ma)]; exact e, fun b u v e => by rw [upd_ne (fun z => by subst z; exact r.not_mem e (fun q => q) ma)]; exact e⟩
/-- a box changed, at the heap -/
theorem HR.upd {C : Ct} {L : List Nat} {μ : Mu} {H : Hp} {h h' : Hs} {n : Nat} {a : Addr} {o : O} {ho : HO} (r : HR C L μ H h) (m : μ[n]? = some a) (q : ObR C μ (upd H a ho) a o) (e : h.set n o = some h') : HR C L μ (upd H a ho) h' ∧ Go L μ H μ (upd H a ho) :=
  r.set m (fun b hb => upd_ne hb) ⟨_, upd_same⟩ q e
theorem put_ok {C : Ct} {L : List Nat} {μ : Mu} {H : Hp} {h h' : Hs} {c k d : D} {x i v : V} {Q : Hp → Prop} (r : HR C L μ H h) (rc : RepV C μ H c x) (rk : RepV C μ H k i) (rd : RepV C μ H d v) (e : putD h c k d = some h')
    (q : ∀ μ' H', Go L μ H μ' H' → HR C L μ' H' h' → Q H') : rSetL x i v H Q ∨ tSetD C x i v H Q := by
  unfold putD at e
  split at e
  · rename_i n
    split at e
    · rename_i ds e0
      split at e
      · rename_i j
        split at e
        · rename_i ix ei
          obtain ⟨a, vs, rfl, m, t, rl⟩ := r.lst rc e0
          cases (show i = V.int j from rk)
          refine .inl ⟨a, vs, j, ix, rfl, rfl, t, by rw [rl.length]; exact ei, ?_⟩
          have st := stay_upd r m (.lst (vs.set ix v))
          obtain ⟨r', g⟩ := r.upd (ho := .lst (vs.set ix v)) (o := .lst (ds.set ix d)) m ⟨_, upd_same, (rl.stay st).set ix (rd.stay st)⟩ e
          exact q _ _ g r'
        · cases e
      · cases e
    · rename_i nks ks vs e0
      obtain ⟨a, es, rfl, m, t, en, ek, r1, r2⟩ := r.dct rc e0
      split at e
      · rename_i j ej
        split at e
        · rename_i hl
          obtain ⟨nk, enk⟩ := idxD_some ej
          refine .inr ⟨μ, a, es, nks, ks, k, nk, some j, rfl, t, en, ek, r1, rk, enk, ej, hl, fun ep' => ?_⟩
          have st := stay_upd r m (DicO C.w a (ep', putV es.2 (some j) nk i v))
          have ob : ObR C μ (L2.upd H a (DicO C.w a (ep', putV es.2 (some j) nk i v))) a (.dct nks ks (vs.set j d)) := by
            refine ⟨(ep', putV es.2 (some j) nk i v), upd_same, ?_, ek, ?_, ?_⟩
            · show (es.2.modify j _).map (·.1) = nks
              rw [modify_map (fun r : EV => r.1) (fun e => (e.1, e.2.1, v)) id (fun _ => rfl), en]
              simp
            · show RepL C μ _ ks ((es.2.modify j _).map (·.2.1))
              rw [modify_map (fun r : EV => r.2.1) (fun e => (e.1, e.2.1, v)) id (fun _ => rfl)]
              simpa using r1.stay st
            · show RepL C μ _ (vs.set j d) ((es.2.modify j _).map (·.2.2))
              rw [modify_map (fun r : EV => r.2.2) (fun e => (e.1, e.2.1, v)) (fun _ => v) (fun _ => rfl), modify_const]
              exact (r2.stay st).set j (rd.stay st)
          obtain ⟨r', g⟩ := r.upd m ob e
          exact q _ _ g r'
        · cases e
      · rename_i ej
        split at e
        · rename_i nk enk
          split at e
          · rename_i hl
            refine .inr ⟨μ, a, es, nks, ks, k, nk, none, rfl, t, en, ek, r1, rk, enk, ej, hl, fun ep' => ?_⟩
            have st := stay_upd r m (DicO C.w a (ep', putV es.2 none nk i v))
            have ob : ObR C μ (L2.upd H a (DicO C.w a (ep', putV es.2 none nk i v))) a (.dct (nks ++ [nk]) (ks ++ [k]) (vs ++ [d])) := by
              refine ⟨(ep', putV es.2 none nk i v), upd_same, ?_, keysD_snoc ek enk, ?_, ?_⟩
              · show (es.2 ++ [(nk, i, v)]).map (·.1) = nks ++ [nk]
                rw [List.map_append, en]
                rfl
              · show RepL C μ _ (ks ++ [k]) ((es.2 ++ [(nk, i, v)]).map (·.2.1))
                rw [List.map_append]
                exact (r1.stay st).append ⟨i, [], rfl, rk.stay st, rfl⟩
              · show RepL C μ _ (vs ++ [d]) ((es.2 ++ [(nk, i, v)]).map (·.2.2))
                rw [List.map_append]
                exact (r2.stay st).append ⟨v, [], rfl, rd.stay st, rfl⟩
            obtain ⟨r', g⟩ := r.upd m ob e
            exact q _ _ g r'
          · cases e
        · cases e
      · cases e
    · cases e
  · cases e
section
variable {X : Cx}
end
section
variable {C : Ct}
def dListD (h : Hs) : List D → Option Nv
  | [.box n] => match h.get n with
    | some (.dct _ ks _) => some (.n (.lst ks))
    | _ => none
  | _ => none
theorem cov_listD : CovA C (rListD C.w C.K) dListD := by
  intro H L μ h xs ds n Q hr r1 hf want
  unfold dListD at hf
  split at hf
  · split at hf
    · rename_i e0
      cases hf
      obtain ⟨x, rfl, h1⟩ := r1.one
      obtain ⟨a, es, rfl, m, e, en, ek, rk, rv⟩ := hr.dct h1 e0
      exact ⟨a, es, rfl, e, fun p hp => want.lst rk hp⟩
    · cases hf
  · cases hf
end
end Rh

set_option Elab.async false
set_option linter.all false
set_option maxRecDepth 100000
set_option maxHeartbeats 2000000
set_option autoImplicit false
namespace Rh
open PySem PySem.Spec PyProof.Rows L2
variable [Tbs]
/-! ### zip and enumerate over lists and tuples -/
def ItAt (t : Bool) (h : Heap) (it l : Addr) (i : Nat) : Prop := match t with
  | true => h.IsTupleIter it l i
  | false => h.IsListIter it l i
def HpB (t : Bool) (h : Heap) (l : Addr) (xs : Array Value) : Prop := match t with
  | true => h.IsTuple l xs
  | false => h.IsList l xs
def SqB (K : PySem.W.Frag) (t : Bool) (H : Hp) (l : Addr) (xs : List V) : Prop := match t with
  | true => SqT K H l xs
  | false => SqL K H l xs
def obB (t : Bool) (l : Addr) : Obj := match t with
  | true => { cls := .type "tuple_iterator", data := .fields #[.ref l, .int 0 0] }
  | false => { cls := .type "list_iterator", data := .fields #[.ref l, .int 0 0] }
theorem drawsB {prog : Program} {w : World} {A : Around} (hh : A.handled = none) (t : Bool) (it l : Addr) (hne : l ≠ it) (items : Array Value) :
    Draws prog w A it [it, l] items.size (fun i v => items[i]? = some v) (fun i h => ItAt t h it l i ∧ HpB t h l items) := by
  cases t
  · exact Draws.list hh it l hne items
  · exact Draws.tuple hh it l hne items
theorem beginsB (t : Bool) (l : Addr) (items : Array Value) : Begins (.ref l) (obB t l) fun h => HpB t h l items := by
  cases t
  · exact begins_list l items
  · exact begins_tuple l items
theorem itAt_new {t : Bool} {h : Heap} {it l : Addr} (e : h.get? it = some (obB t l)) : ItAt t h it l 0 := by
  cases t
  · exact ⟨_, e, rfl, rfl⟩
  · exact ⟨_, e, rfl, rfl⟩
theorem itAt_keep {t : Bool} {h h' : Heap} {it l : Addr} {i : Nat} (x : ItAt t h it l i) (k : ∀ o, h.get? it = some o → h'.get? it = some o) : ItAt t h' it l i := by
  cases t
  · exact Heap.IsListIter.at x k
  · exact Heap.IsTupleIter.at x k
theorem itAt_obj {t : Bool} {h : Heap} {it l : Addr} {i : Nat} (x : ItAt t h it l i) : ∃ o, h.get? it = some o ∧ ∀ v, o.data ≠ .cell v := by
  cases t
  · obtain ⟨o, e, _, d⟩ := x; exact ⟨o, e, fun v q => by rw [d] at q; cases q⟩
  · obtain ⟨o, e, _, d⟩ := x; exact ⟨o, e, fun v q => by rw [d] at q; cases q⟩
section
variable {X : Cx} {pins : List (Addr × Obj)} {σ : L2.St} {H : Hp} {s : Shared} {t : Bool} {a : Addr} {xs ys : List V}
theorem sqB_ok (I : L2.Inv X pins σ H s) (h : SqB X.K t H a xs) : ∃ its : List Value, Vals xs its ∧ HpB t s.heap a its.toArray ∧ xs.length ≤ sizeLine := by
  cases t
  · obtain ⟨its, r, p, z⟩ := I.list h
    exact ⟨its, r, p.isList, z⟩
  · obtain ⟨its, r, p, z⟩ := I.tuple h
    exact ⟨its, r, p, z⟩
theorem sqB_inj (I : L2.Inv X pins σ H s) (h : SqB X.K t H a xs) (h' : SqB X.K t H a ys) : xs = ys := by
  cases t
  · exact I.list_inj h h'
  · exact I.tuple_inj h h'
theorem hpB_lt {h : Heap} {items : Array Value} (x : HpB t h a items) : a < h.objs.size := by
  cases t
  · obtain ⟨o, e, _⟩ := x; exact Heap.lt_size e
  · obtain ⟨o, e, _⟩ := x; exact Heap.lt_size e
end
/-- what stands at a and at b at each turn, the items in new pairs -/
def ItzB (K : PySem.W.Frag) (t1 : Bool) (a : Addr) (t2 : Bool) (b : Addr) : It :=
  ⟨fun i H => ∃ (xs ys : List V) (x y : V), SqB K t1 H a xs ∧ SqB K t2 H b ys ∧ xs[i]? = some x ∧ ys[i]? = some y,
    fun i H v H' => ∃ (T : Addr) (x y : V) (o : Obj), v = .ref T ∧ H T = none ∧ o.dict = none ∧ H' = upd H T (.frz o (.tup [x, y])) ∧ (∀ xs, SqB K t1 H a xs → xs[i]? = some x) ∧ ∀ ys, SqB K t2 H b ys → ys[i]? = some y,
    fun i H => ∃ xs ys : List V, SqB K t1 H a xs ∧ SqB K t2 H b ys ∧ i ≤ xs.length ∧ i ≤ ys.length ∧ (i = xs.length ∨ i = ys.length)⟩
theorem turn_zipB {P : Program} {w : World} {K : PySem.W.Frag} {elts : List Expr} {kk : Nat} {tpos : Pos} {t1 t2 : Bool} {a b z TI TO i1 i2 : Addr} (D : ZipSep2 z TI TO i1 i2 [i1, a] [i2, b]) (ai1 : a ≠ i1) (bi2 : b ≠ i2) :
    Turn P w K (.Tuple elts kk tpos) (ItzB K t1 a t2 b) [z, TI, TO, i1, i2] z (fun i h => IsZip h z TI TO .none ∧ IsTupOf2 h TI (.ref i1) (.ref i2) ∧ (∃ x y, IsTupOf2 h TO x y) ∧ ItAt t1 h i1 a i ∧ ItAt t2 h i2 b i) where
  mem := by simp
  obj := fun i h st c hc => by
    obtain ⟨hz, hTI, ⟨x, y, hTO⟩, h1, h2⟩ := st
    have e' : c = z ∨ c = TI ∨ c = TO ∨ c = i1 ∨ c = i2 := by simpa using hc
    rcases e' with q | q | q | q | q
    · rw [q]; exact ⟨_, hz, fun v q => nomatch q⟩
    · rw [q]; exact ⟨_, hTI, fun v q => nomatch q⟩
    · rw [q]; exact ⟨_, hTO, fun v q => nomatch q⟩
    · rw [q]; exact itAt_obj h1
    · rw [q]; exact itAt_obj h2
  keep := fun i h h' st k => by
    obtain ⟨hz, hTI, ⟨x, y, hTO⟩, h1, h2⟩ := st
    exact ⟨k z (by simp) _ hz, k TI (by simp) _ hTI, ⟨x, y, k TO (by simp) _ hTO⟩, itAt_keep h1 fun o q => k i1 (by simp) o q, itAt_keep h2 fun o q => k i2 (by simp) o q⟩
  item := by
    intro X hP hw hK hc i pins s σ H E I hf st hg
    subst hP hw hK
    obtain ⟨hz, hTI, ⟨x0, y0, hTO⟩, h1, h2⟩ := st
    obtain ⟨xs, ys, x, y, hqx, hqy, hx, hy⟩ := hg
    obtain ⟨its, rv, p, _⟩ := sqB_ok I hqx
    obtain ⟨its2, rv2, p2, _⟩ := sqB_ok I hqy
    obtain ⟨u, hu, ru⟩ := rv.get hx
    obtain ⟨u2, hu2, ru2⟩ := rv2.get hy
    have hzl : z < s.heap.objs.size := Heap.lt_size hz
    have hh : X.A.in1.handled = none := I.ok.hd hc
    have lt1 : i < its.toArray.size := by
      have := (List.getElem?_eq_some_iff.mp hu).1
      simpa using this
    have lt2 : i < its2.toArray.size := by
      have := (List.getElem?_eq_some_iff.mp hu2).1
      simpa using this
    refine wpAny_pyNext_zipD2_item D (drawsB (prog := X.prog) (w := X.w) (A := X.A.in1) hh t1 i1 a ai1 its.toArray) (drawsB (prog := X.prog) (w := X.w) (A := X.A.in1) hh t2 i2 b bi2 its2.toArray) hz hTI hTO ⟨h1, p⟩ ⟨h2, p2⟩ lt1 lt2 fun v1 v2 h' tk e1 e2 z' TO' st1 st2 hT hsz hk => ?_
    have e1 : v1 = u := by simpa [hu] using e1.symm
    have e2 : v2 = u2 := by simpa [hu2] using e2.symm
    subst e1 e2
    refine ⟨_, rfl, wpAny_letOwnedTupleGo_zip (s := { s with heap := h', toks := tk }) z' fun h'' z'' sb => ?_⟩
    have hT2 : h''.get? s.heap.objs.size = some { cls := .type "tuple", data := .seq #[v1, v2] } := (sb.2 _ (Nat.ne_of_gt hzl)).trans hT
    have new : ObjOk X.prog X.w (upd H s.heap.objs.size (.frz { cls := .type "tuple", data := .seq #[v1, v2] } (.tup [x, y]))) h'' s.heap.objs.size (.frz { cls := .type "tuple", data := .seq #[v1, v2] } (.tup [x, y])) :=
      ⟨hT2, by show 2 ≤ sizeLine; decide, [v1, v2], .cons ru (.cons ru2 .nil), ⟨_, hT2, rfl, _, rfl⟩⟩
    have I1 : L2.Inv X pins σ (upd H s.heap.objs.size (.frz { cls := .type "tuple", data := .seq #[v1, v2] } (.tup [x, y]))) { s with heap := h'', toks := tk } :=
      I.turnedNew (t' := tk) (ch := [z, TI, TO, i1, i2]) (fun c o hb q => (sb.2 c (fun q' => hb (by simp [q']))).trans (hk c o (fun q' => hb (by simp [q'])) (fun q' => hb (by simp [q'])) (fun q' => hb (by simp [q'])) (fun q' => hb (by simp [q'])) q)) hf (Nat.le_refl _) new
    refine ⟨.ref s.heap.objs.size, _, I1, rfl, ⟨_, x, y, _, rfl, I.hok.fresh (Nat.le_refl _), rfl, rfl, fun l hl => by rw [sqB_inj I hl hqx]; exact hx, fun l hl => by rw [sqB_inj I hl hqy]; exact hy⟩, ⟨z'', ?_, ⟨v1, v2, ?_⟩, ?_, ?_⟩, fun c hcm => ?_⟩
    · exact (sb.2 _ D.TIz).trans (hk _ _ D.TIz D.TITO D.TIi1 D.TIi2 hTI)
    · exact (sb.2 _ D.TOz).trans TO'
    · exact itAt_keep st1.1 fun o q => (sb.2 _ (Ne.symm D.zi1)).trans q
    · exact itAt_keep st2.1 fun o q => (sb.2 _ (Ne.symm D.zi2)).trans q
    · have hlt : c < s.heap.objs.size := by
        have e' : c = z ∨ c = TI ∨ c = TO ∨ c = i1 ∨ c = i2 := by simpa using hcm
        rcases e' with q | q | q | q | q
        · rw [q]; exact hzl
        · rw [q]; exact Heap.lt_size hTI
        · rw [q]; exact Heap.lt_size hTO
        · rw [q]; obtain ⟨_, e1, _⟩ := itAt_obj h1; exact Heap.lt_size e1
        · rw [q]; obtain ⟨_, e2, _⟩ := itAt_obj h2; exact Heap.lt_size e2
      rw [upd_ne (Nat.ne_of_lt hlt)]
      exact (hf c hcm).1
  done := by
    intro X hP hw hK hc i pins s σ H E I hf st hg
    subst hP hw hK
    obtain ⟨hz, hTI, ⟨x0, y0, hTO⟩, h1, h2⟩ := st
    obtain ⟨xs, ys, hqx, hqy, le1, le2, hend⟩ := hg
    obtain ⟨its, rv, p, _⟩ := sqB_ok I hqx
    obtain ⟨its2, rv2, p2, _⟩ := sqB_ok I hqy
    have hh : X.A.in1.handled = none := I.ok.hd hc
    have l1 : its.toArray.size = xs.length := by rw [List.size_toArray]; exact rv.length.symm
    have l2 : its2.toArray.size = ys.length := by rw [List.size_toArray]; exact rv2.length.symm
    refine wpAny_pyNext_zipD2_end D (drawsB (prog := X.prog) (w := X.w) (A := X.A.in1) hh t1 i1 a ai1 its.toArray) (drawsB (prog := X.prog) (w := X.w) (A := X.A.in1) hh t2 i2 b bi2 its2.toArray) hz hTI hTO ⟨h1, p⟩ ⟨h2, p2⟩ (by omega) (by omega) (by omega) fun h' tk hk => ⟨rfl, I.turnedL (t' := tk) (ch := [z, TI, TO, i1, i2]) (fun c o hb q =>
      hk c o (fun q' => hb (by simp [q'])) (fun q' => hb (by simp [q'])) (fun q' => hb (by simp [q'])) (fun q' => hb (by simp [q'])) q) hf⟩
  self := fun A i s Q E st h => wpAny_pyIter_zip st.1 h
def iZipB (K : PySem.W.Frag) (ta : TA) : TI := fun σ H R => ta σ H fun vs H1 => ∃ t1 a t2 b xs ys, vs = [.ref a, .ref b] ∧ SqB K t1 H1 a xs ∧ SqB K t2 H1 b ys ∧ R (ItzB K t1 a t2 b) H1
theorem pi_zipB {X : Cx} {e e2 : Expr} {ta : TA} {p pos tpos : Pos} {elts : List Expr} {kk : Nat} (hg : Gl X "zip") (hm : X.mg "zip" = none) (ha : PA X [e, e2] ta)
    (hs : starEach [e, e2] X.env = (false, eval e X.env) :: starEach [e2] X.env := by rfl) (hpl : (backTo pos (starEach [e2] X.env)).any (·.1) = false := by rfl) :
    PI X (.Tuple elts kk tpos) (.Call (.Name "zip" p) [e, e2] [] pos) (iZipB X.K ta) := by
  refine ⟨fun pins s σ H R I h => ?_⟩
  refine Call_ (ld_blt I hg hm PyProof.Rows.boot_zip (PyProof.Rows.callWith_type1 (thn (ha.run pos pins s σ H _ I h) fun us s1 ⟨vs, H1, I1, r1, q1⟩ => ?_) hs hpl))
  obtain ⟨t1, a, t2, b, xs, ys, ex, hqx, hqy, q⟩ := q1
  subst ex
  cases r1 with
  | cons r rr =>
    cases rr with
    | cons r' rr =>
      cases rr
      cases r
      cases r'
      have fresh5 : ∀ c, c ∈ [s1.heap.objs.size + 4, s1.heap.objs.size + 2, s1.heap.objs.size + 3, s1.heap.objs.size, s1.heap.objs.size + 1] → FpOk X pins H1 c := fun c hcm => by
        have e' : c = s1.heap.objs.size + 4 ∨ c = s1.heap.objs.size + 2 ∨ c = s1.heap.objs.size + 3 ∨ c = s1.heap.objs.size ∨ c = s1.heap.objs.size + 1 := by simpa using hcm
        have hle : s1.heap.objs.size ≤ c := by
          rcases e' with z | z | z | z | z
          · rw [z]; exact Nat.le_add_right _ _
          · rw [z]; exact Nat.le_add_right _ _
          · rw [z]; exact Nat.le_add_right _ _
          · rw [z]; exact Nat.le_refl _
          · rw [z]; exact Nat.le_add_right _ _
        exact I1.fpOk hle (I1.hok.fresh hle)
      obtain ⟨its, rv, p1, _⟩ := sqB_ok I1 hqx
      obtain ⟨its2, rv2, p2, _⟩ := sqB_ok I1 hqy
      have la := hpB_lt p1
      have lb := hpB_lt p2
      refine zip_begins2 (beginsB t1 a its.toArray) (beginsB t2 b its2.toArray) p1 p2 fun h' hz hTI hTO h1 h2 hsz hk => wpAny_pyIter_zip hz ?_
      have I2 : L2.Inv X pins σ H1 { s1 with heap := h' } := I1.kept (t' := s1.toks) hk
      have D : ZipSep2 (s1.heap.objs.size + 4) (s1.heap.objs.size + 2) (s1.heap.objs.size + 3) s1.heap.objs.size (s1.heap.objs.size + 1) (s1.heap.objs.size :: [a]) ((s1.heap.objs.size + 1) :: [b]) :=
        zip_sep2 (fun c hc => by rw [List.mem_singleton.mp hc]; exact la) (fun c hc => by rw [List.mem_singleton.mp hc]; exact lb)
      exact ⟨s1.heap.objs.size + 4, [s1.heap.objs.size + 4, s1.heap.objs.size + 2, s1.heap.objs.size + 3, s1.heap.objs.size, s1.heap.objs.size + 1], _, _, H1, rfl, I2, turn_zipB D (Nat.ne_of_lt la) (Nat.ne_of_lt (Nat.lt_succ_of_lt lb)), ⟨hz, hTI, ⟨_, _, hTO⟩, itAt_new h1, itAt_new h2⟩, fresh5, q⟩
end Rh

set_option Elab.async false
set_option linter.all false
set_option maxRecDepth 100000
set_option maxHeartbeats 2000000
set_option autoImplicit false
namespace Rh
open PySem PySem.Spec PyProof.Rows L2
variable [Tbs]
/-! ### enumerate -/
def ItnB (K : PySem.W.Frag) (t : Bool) (a : Addr) (c : Int) : It :=
  ⟨fun i H => ∃ (xs : List V) (x : V), SqB K t H a xs ∧ xs[i]? = some x,
    fun i H v H' => ∃ (T : Addr) (x : V) (o : Obj), v = .ref T ∧ H T = none ∧ o.dict = none ∧ H' = upd H T (.frz o (.tup [.int (c + (i : Nat)), x])) ∧ ∀ xs, SqB K t H a xs → xs[i]? = some x,
    fun i H => ∃ xs : List V, SqB K t H a xs ∧ i = xs.length⟩
theorem turn_enumB {P : Program} {w : World} {K : PySem.W.Frag} {elts : List Expr} {kk : Nat} {tpos : Pos} {t : Bool} {a e it : Addr} {c : Int} (hne : e ≠ it) (ea : e ≠ a) (ai : a ≠ it) :
    Turn P w K (.Tuple elts kk tpos) (ItnB K t a c) [e, it] e (fun i h => (∃ old, IsEnum h e it (c + (i : Nat)) old) ∧ ItAt t h it a i) where
  mem := by simp
  obj := fun i h st b hb => by
    obtain ⟨⟨old, he⟩, hi⟩ := st
    have e' : b = e ∨ b = it := by simpa using hb
    rcases e' with z | z
    · rw [z]; exact ⟨_, he, fun v q => nomatch q⟩
    · rw [z]; exact itAt_obj hi
  keep := fun i h h' st k => let ⟨⟨old, he⟩, hi⟩ := st; ⟨⟨old, k e (by simp) _ he⟩, itAt_keep hi fun o q => k it (by simp) o q⟩
  item := by
    intro X hP hw hK hc i pins s σ H E I hf st hg
    subst hP hw hK
    obtain ⟨⟨old, he⟩, hit⟩ := st
    obtain ⟨xs, x, hq, hx⟩ := hg
    obtain ⟨its, rv, p, hz⟩ := sqB_ok I hq
    obtain ⟨u, hu, ru⟩ := rv.get hx
    have hel : e < s.heap.objs.size := Heap.lt_size he
    have hil : it < s.heap.objs.size := by obtain ⟨_, q, _⟩ := itAt_obj hit; exact Heap.lt_size q
    have hh : X.A.in1.handled = none := I.ok.hd hc
    have lt1 : i < its.toArray.size := by
      have := (List.getElem?_eq_some_iff.mp hu).1
      simpa using this
    refine wpAny_pyNext_enum_itemC (drawsB (prog := X.prog) (w := X.w) (A := X.A.in1) hh t it a ai its.toArray) he ⟨hit, p⟩ lt1 hne (by simp [hne, ea]) fun v h' tk ev ho st' hT hsz hk => ?_
    have ev : v = u := by simpa [hu] using ev.symm
    subst ev
    refine ⟨_, rfl, wpAny_letOwnedTupleGo_enum (s := { s with heap := h', toks := tk + 1 }) ho fun h'' he' sb => ?_⟩
    have hT2 : h''.get? s.heap.objs.size = some { cls := .type "tuple", data := .seq #[.int (c + (i : Nat)) tk, v] } := (sb.2 _ (Nat.ne_of_gt hel)).trans hT
    have new : ObjOk X.prog X.w (upd H s.heap.objs.size (.frz { cls := .type "tuple", data := .seq #[.int (c + (i : Nat)) tk, v] } (.tup [.int (c + (i : Nat)), x]))) h'' s.heap.objs.size (.frz { cls := .type "tuple", data := .seq #[.int (c + (i : Nat)) tk, v] } (.tup [.int (c + (i : Nat)), x])) :=
      ⟨hT2, by show 2 ≤ sizeLine; decide, [.int (c + (i : Nat)) tk, v], .cons ⟨_, rfl⟩ (.cons ru .nil), ⟨_, hT2, rfl, _, rfl⟩⟩
    have I1 : L2.Inv X pins σ (upd H s.heap.objs.size (.frz { cls := .type "tuple", data := .seq #[.int (c + (i : Nat)) tk, v] } (.tup [.int (c + (i : Nat)), x]))) { s with heap := h'', toks := tk + 1 } :=
      I.turnedNew (ch := [e, it]) (fun b ob hb q => (sb.2 b (fun z => hb (by simp [z]))).trans (hk b ob (fun z => hb (by simp [z])) (fun z => hb (by simp [z])) q)) hf (Nat.le_refl _) new
    refine ⟨.ref s.heap.objs.size, _, I1, rfl, ⟨_, x, _, rfl, I.hok.fresh (Nat.le_refl _), rfl, rfl, fun ys hy => by rw [sqB_inj I hy hq]; exact hx⟩, ⟨⟨v, ?_⟩, itAt_keep st'.1 fun o q => (sb.2 it (Ne.symm hne)).trans q⟩, fun b hb => ?_⟩
    · have e1 : c + ((i + 1 : Nat) : Int) = c + (i : Int) + 1 := by omega
      rw [e1]; exact he'
    · have hb' : b < s.heap.objs.size := by
        have e' : b = e ∨ b = it := by simpa using hb
        rcases e' with z | z
        · rw [z]; exact hel
        · rw [z]; exact hil
      rw [upd_ne (Nat.ne_of_lt hb')]
      exact (hf b hb).1
  done := by
    intro X hP hw hK hc i pins s σ H E I hf st hg
    subst hP hw hK
    obtain ⟨⟨old, he⟩, hit⟩ := st
    obtain ⟨xs, hq, hx⟩ := hg
    obtain ⟨its, rv, p, hz⟩ := sqB_ok I hq
    obtain ⟨f0, f1, f2, f3, f4, f5⟩ := hf it (by simp)
    have hh : X.A.in1.handled = none := I.ok.hd hc
    have hl : i = its.toArray.size := by rw [List.size_toArray, hx]; exact rv.length
    refine wpAny_pyNext_enum_endD (drawsB (prog := X.prog) (w := X.w) (A := X.A.in1) hh t it a ai its.toArray) he (by rw [← hl]; exact ⟨hit, p⟩) fun h' eb => ⟨rfl, I.turned (t' := s.toks) (fun b o hb q => eb b o hb q) f0 f1 f3 f4 f5⟩
  self := fun A i s Q E st h => let ⟨⟨_, he⟩, _⟩ := st; wpAny_pyIter_enum he h
def iEnumB (K : PySem.W.Frag) (te : TE) (c : Int) : TI := fun σ H R => te σ H fun v H1 => ∃ t a xs, v = .ref a ∧ SqB K t H1 a xs ∧ R (ItnB K t a c) H1
/-- enumerate(e, 0) as enumerate(e) has it -/
theorem meets_enum0 {v : Value} {o : Obj} {H : Heap → Prop} (B : Begins v o H) :
    Meets (Builtin.«enumerate.__new__» ⟨[.type "enumerate", v], []⟩) (fun _ R s => H s.heap ∧
      R (.ok (.ret (.ref (s.heap.push o).objs.size))) { s with heap := (s.heap.push o).push { cls := .type "enumerate", data := .fields #[.none, .bool false, .ref s.heap.objs.size, rawInt 0, .none, .none] } }) :=
  .of_wp fun prog w A R s h => by
    obtain ⟨hp, g, d, tk, os⟩ := s; obtain ⟨h1, h⟩ := h
    have hsub := sub_enumerate
    have q1 : ∀ {A' : Around} {E : Value → Shared → Prop} {Q : Value → Shared → Prop}, Q (.ref hp.objs.size) ⟨hp.push o, g, d, tk, os⟩ → wpAny (model prog w) A' (pyIter v) Q E ⟨hp, g, d, tk, os⟩ :=
      fun q => B.iter prog w _ _ ⟨hp, g, d, tk, os⟩ _ h1 q
    wp_walk using q1
    refine wpAny_stack_any fun st => wpAny_pure ?_
    split
    · rename_i c _ _ _ _ _
      cases (c == Value.type "enumerate")
      · wp_walk using q1
        exact ⟨_, rfl, h⟩
      · wp_walk using q1
        exact ⟨_, rfl, h⟩
    · wp_walk using q1
      exact ⟨_, rfl, h⟩
section
variable {prog : Program} {w : World} {A : Around} {E : Value → Shared → Prop} {s : Shared}
theorem enum_begins0 {v : Value} {o : Obj} {H : Heap → Prop} {Q : Value → Shared → Prop} (B : Begins v o H) (h1 : H s.heap)
    (h : ∀ h', IsEnum h' (s.heap.objs.size + 1) s.heap.objs.size 0 .none → h'.get? s.heap.objs.size = some o → h'.objs.size = s.heap.objs.size + 2 →
      (∀ b o, s.heap.get? b = some o → h'.get? b = some o) → Q (.ref (s.heap.objs.size + 1)) { s with heap := h' }) :
    wpAny (model prog w) A (call (.type "enumerate") [v]) Q E s := by
  refine callType_new F.called_enumerate (by decide) (F.typeCall_enumerate_1 _) (F.newCall_enumerate_1 _) (fun obj => F.args_object_init_2 obj _) F.entry_enumerate_new
    (meets_enum0 B) ⟨h1, ?_⟩
  have hz : (s.heap.push o).objs.size = s.heap.objs.size + 1 := Heap.size_push ..
  show _ ∧ _
  rw [hz]
  have he : IsEnum ((s.heap.push o).push { cls := .type "enumerate", data := .fields #[.none, .bool false, .ref s.heap.objs.size, rawInt 0, .none, .none] }) (s.heap.objs.size + 1) s.heap.objs.size 0 .none := by
    have := Heap.get?_push_size (s.heap.push o) (o := { cls := .type "enumerate", data := .fields #[.none, .bool false, .ref s.heap.objs.size, rawInt 0, .none, .none] }) rfl
    rw [hz] at this; exact this
  refine ⟨⟨_, he, rfl⟩, h _ he (Heap.get?_push_of_some _ (Heap.get?_push_size _ B.free)) (by rw [Heap.size_push, hz]) fun b o x => Heap.get?_push_of_some _ (Heap.get?_push_of_some _ x)⟩
end
/-- enumerate(e) -/
theorem pi_enum0 {X : Cx} {e : Expr} {te : TE} {p pos tpos : Pos} {elts : List Expr} {kk : Nat} (hg : Gl X "enumerate") (hm : X.mg "enumerate" = none) (he : PE X e te)
    (hs : starEach [e] X.env = (false, eval e X.env) :: starEach [] X.env := by rfl) (hs2 : starEach [e] X.env = [(false, eval e X.env)] := by rfl) :
    PI X (.Tuple elts kk tpos) (.Call (.Name "enumerate" p) [e] [] pos) (iEnumB X.K te 0) := by
  refine ⟨fun pins s σ H R I h => ?_⟩
  refine Call_ (ld_blt I hg hm boot_enumerate (PyProof.Rows.callWith_type1 (thn ((pa_cons he pa_nil hs).run pos pins s σ H (fun vs H1 => match vs with | [v] => ∃ t a xs, v = .ref a ∧ SqB X.K t H1 a xs ∧ R (ItnB X.K t a 0) H1 | _ => False) I h) fun us s1 ⟨vs, H1, I1, r1, q1⟩ => ?_) hs2 rfl))
  dsimp only at q1
  split at q1
  case h_2 => exact q1.elim
  rename_i v
  obtain ⟨t, a, xs, ea, hq, q1⟩ := q1
  subst ea
  cases r1 with
  | cons r rr =>
    cases rr
    cases r
    obtain ⟨its, rv, p', hz⟩ := sqB_ok I1 hq
    have la := hpB_lt p'
    refine enum_begins0 (beginsB t a its.toArray) p' fun h' hen hit hsz hk => wpAny_pyIter_enum hen ?_
    have I3 : L2.Inv X pins σ H1 { s1 with heap := h' } := I1.kept (t' := s1.toks) hk
    refine ⟨s1.heap.objs.size + 1, [s1.heap.objs.size + 1, s1.heap.objs.size], _, _, H1, rfl, I3, turn_enumB (t := t) (a := a) (c := 0) (e := s1.heap.objs.size + 1) (it := s1.heap.objs.size) (Nat.succ_ne_self _) (Nat.ne_of_gt (Nat.lt_succ_of_lt la)) (Nat.ne_of_lt la), ⟨⟨.none, by simpa using hen⟩, itAt_new hit⟩, fun b hb => ?_, q1⟩
    have e' : b = s1.heap.objs.size + 1 ∨ b = s1.heap.objs.size := by simpa using hb
    have hle : s1.heap.objs.size ≤ b := by
      rcases e' with z | z
      · rw [z]; exact Nat.le_add_right _ _
      · rw [z]; exact Nat.le_refl _
    exact I1.fpOk hle (I1.hok.fresh hle)
end Rh

set_option Elab.async false
set_option linter.all false
set_option maxRecDepth 100000
set_option maxHeartbeats 2000000
set_option autoImplicit false
namespace Rh
open PySem PySem.Spec PyProof.Rows L2
variable [Tbs]

/-! ### what is walked -/
/-- what is immutable stays, and so do the walked boxes -/
structure Still (lks : List Nat) (μ1 : Mu) (H1 : Hp) (μ : Mu) (H : Hp) : Prop where
  st : Stay μ1 H1 μ H
  lk : ∀ n ∈ lks, ∀ a, μ1[n]? = some a → H a = H1 a
/-- the walk J yields the data ds, wherever the walked boxes stand still -/
structure Cover (C : Ct) (J : It) (ds : List D) (lks : List Nat) (μ1 : Mu) (H1 : Hp) : Prop where
  go : ∀ i μ H, Still lks μ1 H1 μ H → i < ds.length → J.go i H
  stop : ∀ i μ H, Still lks μ1 H1 μ H → i = ds.length → J.stop i H
  yld : ∀ i μ H x H' d, Still lks μ1 H1 μ H → J.yld i H x H' → ds[i]? = some d → Same H H' ∧ (∀ a, H' a = none → H a = none) ∧ RepV C μ H' d x
def rdI (X : Cx) (W : WX) (m : M (List D × List Nat)) : TI := fun σ H R => rdG X W m σ H fun _ _ p _ μ' H' => ∀ J, Cover (ctX X) J p.1 p.2 μ' H' → R J H'
section
variable {C : Ct} {L : List Nat} {μ μ1 : Mu} {H H1 : Hp} {h : Hs}
/-- a sequence as it stands -/
def SqF (K : PySem.W.Frag) (lks : List Nat) (t : Bool) (μ : Mu) (H : Hp) (a : Addr) (vs : List V) : Prop := match t with
  | true => TupAt K H a vs
  | false => (∃ n ∈ lks, μ[n]? = some a ∧ H a = some (.lst vs)) ∨ ScrAt K H a vs
theorem SqF.sq {K : PySem.W.Frag} {lks : List Nat} {t : Bool} {a : Addr} {vs : List V} (q : SqF K lks t μ H a vs) : SqB K t H a vs := by
  cases t
  · rcases q with ⟨n, _, _, e⟩ | q
    · exact .inl (.inl e)
    · exact q.sqL
  · exact TupAt.sq q
theorem SqF.still {K : PySem.W.Frag} {lks : List Nat} {t : Bool} {a : Addr} {vs : List V} (st : Still lks μ1 H1 μ H) (q : SqF K lks t μ1 H1 a vs) : SqB K t H a vs := by
  cases t
  · rcases q with ⟨n, m, e1, e⟩ | q
    · exact .inl (.inl ((st.lk n m a e1).trans e))
    · exact (st.st.scr q).sqL
  · exact TupAt.sq (st.st.tupAt q)
theorem SqF.more {K : PySem.W.Frag} {lks lks' : List Nat} {t : Bool} {a : Addr} {vs : List V} (hl : ∀ n ∈ lks, n ∈ lks') (q : SqF K lks t μ H a vs) : SqF K lks' t μ H a vs := by
  cases t
  · rcases q with ⟨n, m, q⟩ | q
    · exact .inl ⟨n, hl n m, q⟩
    · exact .inr q
  · exact q
/-- items, and the box that holds them -/
def itD (h : Hs) : D → Option (List D × List Nat)
  | .tup ds => some (ds, [])
  | .scr ds => some (ds, [])
  | .box n => match h.get n with
    | some (.lst ds) => some (ds, [n])
    | _ => none
  | _ => none
theorem itD_ok (r : HR C L μ H h) {d : D} {ds : List D} {lks : List Nat} {x : V} (q : RepV C μ H d x) (e : itD h d = some (ds, lks)) : ∃ t a vs, x = .ref a ∧ SqF C.K lks t μ H a vs ∧ RepL C μ H ds vs := by
  cases d with
  | tup es => cases e; obtain ⟨a, vs, rfl, t, q⟩ := q; exact ⟨true, a, vs, rfl, t, q⟩
  | scr es => cases e; obtain ⟨a, vs, rfl, t, q⟩ := q; exact ⟨false, a, vs, rfl, .inr t, q⟩
  | box n =>
    unfold itD at e
    dsimp only at e
    split at e
    · rename_i e0
      cases e
      obtain ⟨a, vs, rfl, m, t, q⟩ := r.lst q e0
      exact ⟨false, a, vs, rfl, .inl ⟨n, List.mem_singleton_self _, m, t⟩, q⟩
    · cases e
  | _ => cases e
theorem cover_seq {lks : List Nat} {t : Bool} {a : Addr} {vs : List V} {ds : List D} (q : SqF C.K lks t μ1 H1 a vs) (r : RepL C μ1 H1 ds vs) : Cover C (match t with | true => Itt C.K a | false => Itl C.K a) ds lks μ1 H1 := by
  cases t
  · refine ⟨fun i μ H st hi => ?_, fun i μ H st hi => ⟨vs, q.still st, by rw [r.length]; exact Nat.le_of_eq hi.symm⟩, fun i μ H x H' d st y hd => ?_⟩
    · obtain ⟨v, hv, _⟩ := r.get (List.getElem?_eq_getElem hi)
      exact ⟨vs, v, q.still st, hv⟩
    · obtain ⟨e, y⟩ := y
      subst e
      obtain ⟨v, hv, rv⟩ := r.get hd
      have := y vs (q.still st)
      rw [hv] at this; cases this
      exact ⟨fun _ _ e => e, fun _ e => e, rv.stay st.st⟩
  · refine ⟨fun i μ H st hi => ?_, fun i μ H st hi => ⟨vs, q.still st, by rw [r.length]; exact Nat.le_of_eq hi.symm⟩, fun i μ H x H' d st y hd => ?_⟩
    · obtain ⟨v, hv, _⟩ := r.get (List.getElem?_eq_getElem hi)
      exact ⟨vs, v, q.still st, hv⟩
    · obtain ⟨e, y⟩ := y
      subst e
      obtain ⟨v, hv, rv⟩ := r.get hd
      have := y vs (q.still st)
      rw [hv] at this; cases this
      exact ⟨fun _ _ e => e, fun _ e => e, rv.stay st.st⟩
theorem cover_dct {n : Nat} {a : Addr} {es : Nat × List EV} {ds : List D} (m : μ1[n]? = some a) (e : H1 a = some (DicO C.w a es)) (r : RepL C μ1 H1 ds (es.2.map (·.2.1))) : Cover C (Itq C.w a es) ds [n] μ1 H1 := by
  have hl : es.2.length = ds.length := by rw [← r.length, List.length_map]
  have at_ : ∀ {μ : Mu} {H : Hp}, Still [n] μ1 H1 μ H → H a = some (DicO C.w a es) := fun st => (st.lk n (List.mem_singleton_self _) a m).trans e
  refine ⟨fun i μ H st hi => ⟨at_ st, by omega⟩, fun i μ H st hi => ⟨at_ st, by omega⟩, fun i μ H x H' d st y hd => ?_⟩
  obtain ⟨e, en, he, rfl⟩ := y
  subst e
  obtain ⟨v, hv, rv⟩ := r.get hd
  rw [List.getElem?_map, he] at hv
  cases hv
  exact ⟨fun _ _ e => e, fun _ e => e, rv.stay st.st⟩
end
section
variable {X : Cx} {W : WX} {tg : Expr}
/-- what is walked: a sequence, or a dict's keys -/
def iterD (h : Hs) (d : D) : Option (List D × List Nat) := match itD h d with
  | some p => some p
  | none => match d with
    | .box n => (match h.get n with
      | some (.dct _ ks _) => some (ks, [n])
      | _ => none)
    | _ => none
def mIter (m : M D) : M (List D × List Nat) := mBind m fun d => fun _ h => match iterD h d with
  | some p => some (.ok p h)
  | none => none
theorem i_any {l : Expr} {m : M D} (hl : PE X l (rd X W m)) : PI X tg l (rdI X W (mIter m)) := by
  refine pi_imp (pi_seqD hl) fun σ H R q => rdG_imp (rdG_bind q) fun ρ L d h1 μ1 H1 ⟨rel1, q1⟩ x rx => ?_
  unfold iterD at q1
  cases e1 : itD h1 d with
  | some p =>
    obtain ⟨ds, lks⟩ := p
    simp only [e1] at q1
    obtain ⟨t, a, vs, rfl, sq, rl⟩ := itD_ok rel1.hr rx e1
    have k := q1 μ1 H1 .refl rel1.hr _ (cover_seq sq rl)
    refine ⟨a, rfl, ?_⟩
    cases t
    · exact .inl ⟨⟨vs, sq.sq⟩, k⟩
    · exact .inr (.inl ⟨⟨vs, sq.sq⟩, k⟩)
  | none =>
    simp only [e1] at q1
    cases d with
    | box n =>
      dsimp only at q1
      cases e0 : h1.get n with
      | none => simp only [e0] at q1; exact q1.none
      | some o =>
        cases o with
        | dct nks ks vs =>
          simp only [e0] at q1
          obtain ⟨a, es, rfl, m, t, en, ek, r1, r2⟩ := rel1.hr.dct rx e0
          exact ⟨a, rfl, .inr (.inr ⟨es, t, q1 μ1 H1 .refl rel1.hr _ (cover_dct m t r1)⟩)⟩
        | _ => simp only [e0] at q1; exact q1.none
    | _ => exact q1.none
/-! ranges -/
def rangeD (lo hi : Int) : List D := (List.range (hi - lo).toNat).map fun k => .int (lo + (k : Nat))
theorem cover_range {C : Ct} {lo : Int} {n : Nat} {H1 : Hp} {μ1 : Mu} : Cover C (Itr lo n) ((List.range n).map fun (k : Nat) => D.int (lo + (k : Nat))) [] μ1 H1 := by
  refine ⟨fun i μ H st hi => ?_, fun i μ H st hi => ?_, fun i μ H x H' d st y hd => ?_⟩
  · show i < n; simpa using hi
  · show n ≤ i; have q := hi; simp at q; omega
  · obtain ⟨e, rfl⟩ := y
    subst e
    rw [List.getElem?_map] at hd
    obtain ⟨k, hk, rfl⟩ := Option.map_eq_some_iff.mp hd
    obtain ⟨h1, h2⟩ := List.getElem?_eq_some_iff.mp hk
    rw [List.getElem_range] at h2
    subst h2
    exact ⟨fun _ _ e => e, fun _ e => e, rfl⟩
def mRange1 (ms : M (List D)) : M (List D × List Nat) := mBind ms fun ds => fun _ h => match ds with
  | [.int j] => if -1000000 ≤ j ∧ j ≤ 1000000 then some (.ok (rangeD 0 j, []) h) else none
  | _ => none
theorem i_range1 {a : Expr} {ms : M (List D)} {p pos : Pos} (hg : Gl X "range") (hm : X.mg "range" = none) (ha : PA X [a] (rdA X W ms)) (hs : starEach [a] X.env = [(false, eval a X.env)] := by rfl) : PI X tg (.Call (.Name "range" p) [a] [] pos) (rdI X W (mRange1 ms)) := by
  refine pi_imp (pi_range1 hg hm ha hs) fun σ H R q => rdG_imp (rdG_bind q) fun ρ L ds h1 μ1 H1 ⟨rel1, q1⟩ xs rx => ?_
  split at q1
  · rename_i j _
    split at q1
    · rename_i hj
      obtain ⟨x, rfl, hx⟩ := rx.one
      cases (show x = V.int j from hx)
      refine ⟨j, rfl, by omega, by omega, q1 μ1 H1 .refl rel1.hr _ ?_⟩
      have c := cover_range (C := ctX X) (lo := 0) (n := j.toNat) (H1 := H1) (μ1 := μ1)
      unfold rangeD
      rw [Int.sub_zero]
      exact c
    · exact q1.none
  · exact q1.none
/-! zip, enumerate -/
def zipD (ds es : List D) : List D := List.zipWith (fun d e => .tup [d, e]) ds es
theorem cover_zip {C : Ct} {H1 : Hp} {μ1 : Mu} {lks : List Nat} {t1 t2 : Bool} {a b : Addr} {vs us : List V} {ds es : List D} (h1 : SqF C.K lks t1 μ1 H1 a vs) (h2 : SqF C.K lks t2 μ1 H1 b us) (r1 : RepL C μ1 H1 ds vs) (r2 : RepL C μ1 H1 es us) : Cover C (ItzB C.K t1 a t2 b) (zipD ds es) lks μ1 H1 := by
  have hl : (zipD ds es).length = min ds.length es.length := List.length_zipWith
  refine ⟨fun i μ H st hi => ?_, fun i μ H st hi => ?_, fun i μ H x H' d st y hd => ?_⟩
  · have i1 : i < ds.length := by omega
    have i2 : i < es.length := by omega
    obtain ⟨v, hv, _⟩ := r1.get (List.getElem?_eq_getElem i1)
    obtain ⟨u, hu, _⟩ := r2.get (List.getElem?_eq_getElem i2)
    exact ⟨vs, us, v, u, h1.still st, h2.still st, hv, hu⟩
  · have q1 := r1.length
    have q2 := r2.length
    exact ⟨vs, us, h1.still st, h2.still st, by omega, by omega, by omega⟩
  · obtain ⟨T, v, u, ob, rfl, hT, od, rfl, f1, f2⟩ := y
    have hi : i < (zipD ds es).length := (List.getElem?_eq_some_iff.mp hd).1
    have i1 : i < ds.length := by omega
    have i2 : i < es.length := by omega
    have e1 := f1 _ (h1.still st)
    have e2 := f2 _ (h2.still st)
    obtain ⟨v', hv, rv⟩ := r1.get (List.getElem?_eq_getElem i1)
    obtain ⟨u', hu, ru⟩ := r2.get (List.getElem?_eq_getElem i2)
    rw [e1] at hv; cases hv
    rw [e2] at hu; cases hu
    have ed : d = .tup [ds[i], es[i]] := by
      have q : (zipD ds es)[i]? = some (.tup [ds[i], es[i]]) := by
        unfold zipD
        rw [List.getElem?_zipWith, List.getElem?_eq_getElem i1, List.getElem?_eq_getElem i2]
      rw [q] at hd
      exact (Option.some.inj hd).symm
    subst ed
    obtain ⟨s1, s2⟩ := same_new (o := HO.frz ob (.tup [v, u])) hT
    have st2 := Same.stay (μ := μ) s1
    exact ⟨s1, s2, T, [v, u], rfl, .inl ⟨ob, upd_same, od⟩, v, [u], rfl, (rv.stay st.st).stay st2, u, [], rfl, (ru.stay st.st).stay st2, rfl⟩
def mZip (ms : M (List D)) : M (List D × List Nat) := mBind ms fun ds => fun _ h => match ds with
  | [d1, d2] => (match itD h d1, itD h d2 with
    | some (ds, l1), some (es, l2) => some (.ok (zipD ds es, l1 ++ l2) h)
    | _, _ => none)
  | _ => none
theorem i_zip {e e2 : Expr} {ms : M (List D)} {p pos tpos : Pos} {elts : List Expr} {kk : Nat} (hg : Gl X "zip") (hm : X.mg "zip" = none) (ha : PA X [e, e2] (rdA X W ms))
    (hs : starEach [e, e2] X.env = (false, eval e X.env) :: starEach [e2] X.env := by rfl) (hpl : (backTo pos (starEach [e2] X.env)).any (·.1) = false := by rfl) :
    PI X (.Tuple elts kk tpos) (.Call (.Name "zip" p) [e, e2] [] pos) (rdI X W (mZip ms)) := by
  refine pi_imp (pi_zipB hg hm ha hs hpl) fun σ H R q => rdG_imp (rdG_bind q) fun ρ L ds h1 μ1 H1 ⟨rel1, q1⟩ xs rx => ?_
  split at q1
  · rename_i d1 d2
    split at q1
    · rename_i ds l1 es l2 e1 e2
      obtain ⟨x, y, rfl, hx, hy⟩ := rx.two
      obtain ⟨t1, a, vs, rfl, s1, r1⟩ := itD_ok rel1.hr hx e1
      obtain ⟨t2, b, us, rfl, s2, r2⟩ := itD_ok rel1.hr hy e2
      exact ⟨t1, a, t2, b, vs, us, rfl, s1.sq, s2.sq, q1 μ1 H1 .refl rel1.hr _ (cover_zip (s1.more fun n m => List.mem_append_left _ m) (s2.more fun n m => List.mem_append_right _ m) r1 r2)⟩
    · exact q1.none
  · exact q1.none
def enumD (c : Int) : List D → List D
  | [] => []
  | d :: ds => .tup [.int c, d] :: enumD (c + 1) ds
theorem enumD_len : ∀ (c : Int) (ds : List D), (enumD c ds).length = ds.length
  | _, [] => rfl
  | c, d :: ds => by show (enumD (c + 1) ds).length + 1 = ds.length + 1; rw [enumD_len]
theorem enumD_get : ∀ (c : Int) (ds : List D) (i : Nat), (enumD c ds)[i]? = (ds[i]?).map fun d => .tup [.int (c + (i : Nat)), d]
  | _, [], i => by simp [enumD]
  | c, d :: ds, 0 => by simp [enumD]
  | c, d :: ds, i + 1 => by
    show (enumD (c + 1) ds)[i]? = (ds[i]?).map _
    rw [enumD_get]
    have e : c + 1 + (i : Int) = c + ((i + 1 : Nat) : Int) := by omega
    rw [e]
theorem cover_enum {C : Ct} {H1 : Hp} {μ1 : Mu} {lks : List Nat} {t : Bool} {a : Addr} {c : Int} {vs : List V} {ds : List D} (h1 : SqF C.K lks t μ1 H1 a vs) (r1 : RepL C μ1 H1 ds vs) : Cover C (ItnB C.K t a c) (enumD c ds) lks μ1 H1 := by
  have hl := enumD_len c ds
  refine ⟨fun i μ H st hi => ?_, fun i μ H st hi => ?_, fun i μ H x H' d st y hd => ?_⟩
  · have i1 : i < ds.length := by omega
    obtain ⟨v, hv, _⟩ := r1.get (List.getElem?_eq_getElem i1)
    exact ⟨vs, v, h1.still st, hv⟩
  · have q1 := r1.length
    exact ⟨vs, h1.still st, by omega⟩
  · obtain ⟨T, v, ob, rfl, hT, od, rfl, f1⟩ := y
    have e1 := f1 _ (h1.still st)
    rw [enumD_get] at hd
    obtain ⟨d0, hd0, rfl⟩ := Option.map_eq_some_iff.mp hd
    obtain ⟨v', hv, rv⟩ := r1.get hd0
    rw [e1] at hv; cases hv
    obtain ⟨s1, s2⟩ := same_new (o := HO.frz ob (.tup [.int (c + (i : Nat)), v])) hT
    have st2 := Same.stay (μ := μ) s1
    exact ⟨s1, s2, T, [.int (c + (i : Nat)), v], rfl, .inl ⟨ob, upd_same, od⟩, _, [v], rfl, rfl, v, [], rfl, (rv.stay st.st).stay st2, rfl⟩
def mEnum (c : Int) (m : M D) : M (List D × List Nat) := mBind m fun d => fun _ h => match itD h d with
  | some (ds, l) => some (.ok (enumD c ds, l) h)
  | none => none
theorem rd_enum {c : Int} {m : M D} {σ : L2.St} {H : Hp} {R : It → Hp → Prop} (q : rdI X W (mEnum c m) σ H R) : iEnumB X.K (rd X W m) c σ H R := by
  refine rdG_imp (rdG_bind q) fun ρ L d h1 μ1 H1 ⟨rel1, q1⟩ x rx => ?_
  split at q1
  · rename_i ds l e1
    obtain ⟨t, a, vs, rfl, s1, r1⟩ := itD_ok rel1.hr rx e1
    exact ⟨t, a, vs, rfl, s1.sq, q1 μ1 H1 .refl rel1.hr _ (cover_enum s1 r1)⟩
  · exact q1.none
theorem i_enum0 {e : Expr} {m : M D} {p pos tpos : Pos} {elts : List Expr} {kk : Nat} (hg : Gl X "enumerate") (hm : X.mg "enumerate" = none) (he : PE X e (rd X W m))
    (hs : starEach [e] X.env = (false, eval e X.env) :: starEach [] X.env := by rfl) (hs2 : starEach [e] X.env = [(false, eval e X.env)] := by rfl) :
    PI X (.Tuple elts kk tpos) (.Call (.Name "enumerate" p) [e] [] pos) (rdI X W (mEnum 0 m)) :=
  pi_imp (pi_enum0 hg hm he hs hs2) fun σ H R h => rd_enum h
end

/-! ### targets -/
/-- but for the slots tv all stands -/
def Bt (tv : List Nat) (σ σ' : L2.St) : Prop := σ'.length = σ.length ∧ ∀ (i : Nat), i ∉ tv → σ'[i]? = σ[i]?
abbrev TM := D → En → Hs → Option (En × Hs)
def rdTg (X : Cx) (t : TM) (tv : List Nat) : TG := fun x σ H Q => ∃ d ρ L μ h ρ' h', Rel (ctX X) L ρ σ μ H h ∧ RepV (ctX X) μ H d x ∧ t d ρ h = some (ρ', h') ∧ ∀ σ' μ' H', Go L μ H μ' H' → Rel (ctX X) L ρ' σ' μ' H' h' → Bt tv σ σ' → Q σ' H'
def tName (i : Nat) : TM := fun d ρ h => some (ρ.set i (some d), h)
abbrev TMs := List D → En → Hs → Option (En × Hs)
def rdTgs (X : Cx) (t : TMs) (tv : List Nat) : TGs := fun xs σ H Q => ∃ ds ρ L μ h ρ' h', Rel (ctX X) L ρ σ μ H h ∧ RepL (ctX X) μ H ds xs ∧ t ds ρ h = some (ρ', h') ∧ ∀ σ' μ' H', Go L μ H μ' H' → Rel (ctX X) L ρ' σ' μ' H' h' → Bt tv σ σ' → Q σ' H'
def tsNil : TMs := fun ds ρ h => match ds with | [] => some (ρ, h) | _ => none
def tsCons (t : TM) (ts : TMs) : TMs := fun ds ρ h => match ds with
  | [] => none
  | d :: r => match t d ρ h with
    | none => none
    | some (ρ1, h1) => ts r ρ1 h1
def tTup (n : Nat) (ts : TMs) : TM := fun d ρ h => match d with
  | .tup ds => if ds.length = n then ts ds ρ h else none
  | d => match lstD h d with
    | some ds => if ds.length = n then ts ds ρ h else none
    | none => none
section
variable {X : Cx} {W : WX}
theorem g_name {i : Nat} {x : Str} {pos : Pos} (hN : X.N.Nodup) (hi : X.N[i]? = some x) (hx : Loc X.env.scope x) (hf : X.fn x = true ∨ X.env.scope.names.lookup x = some .local := by first | exact .inl rfl | exact .inr rfl | assumption) : PG X (.Name x pos) (rdTg X (tName i) [i]) :=
  pg_imp (pg_name hN hi hx hf) fun v σ H Q ⟨d, ρ, L, μ, h, ρ', h', rel, rv, e, k⟩ => by
    cases e
    exact k _ μ H .refl (rel.set rv) ⟨by rw [List.length_set], fun j hj => List.getElem?_set_ne fun q => hj (by rw [q]; exact List.mem_singleton_self _)⟩
theorem gs_nil : PGs X [] (rdTgs X tsNil []) := pgs_imp pgs_nil fun v σ H Q ⟨ds, ρ, L, μ, h, ρ', h', rel, rv, e, k⟩ => by
  unfold tsNil at e
  split at e
  · cases e
    exact ⟨rv, k σ μ H .refl rel ⟨rfl, fun _ _ => rfl⟩⟩
  · cases e
theorem gs_cons {e : Expr} {es : List Expr} {t : TM} {ts : TMs} {v1 v2 : List Nat} (h1 : PG X e (rdTg X t v1)) (h2 : PGs X es (rdTgs X ts v2))
    (hs : (assignEach (e :: es) X.env).map (·.2) = assign e X.env :: (assignEach es X.env).map (·.2) := by rfl) : PGs X (e :: es) (rdTgs X (tsCons t ts) (v1 ++ v2)) := by
  refine pgs_imp (pgs_cons h1 h2 hs) fun v σ H Q ⟨ds, ρ, L, μ, h, ρ', h', rel, rv, e, k⟩ => ?_
  unfold tsCons at e
  split at e
  · cases e
  · rename_i d r
    obtain ⟨x, xs, rfl, q1, q2⟩ := rv
    split at e
    · cases e
    · rename_i ρ1 h1 e1
      exact ⟨x, xs, rfl, d, ρ, L, μ, h, ρ1, h1, rel, q1, e1, fun σ1 μ1 H1 g1 rel1 b1 => ⟨r, ρ1, L, μ1, h1, ρ', h', rel1, q2.go rel.hr g1, e, fun σ2 μ2 H2 g2 rel2 b2 => k σ2 μ2 H2 (g1.trans g2) rel2 ⟨b2.1.trans b1.1, fun i hi => (b2.2 i fun q => hi (List.mem_append_right _ q)).trans (b1.2 i fun q => hi (List.mem_append_left _ q))⟩⟩⟩
theorem g_tup {es : List Expr} {k : Nat} {pos : Pos} {n : Nat} {ts : TMs} {tv : List Nat} (hc : X.calm = true) (h : PGs X es (rdTgs X ts tv))
    (hn : (assignEach es X.env).length = n := by rfl) (hst : (assignEach es X.env).findIdx? (·.1) = none := by rfl) : PG X (.Tuple es k pos) (rdTg X (tTup n ts) tv) := by
  have both : PG X (.Tuple es k pos) (fun v σ H Q => gTup X.K n (rdTgs X ts tv) v σ H Q ∨ gUnl X.K n (rdTgs X ts tv) v σ H Q) :=
    ⟨fun pins s σ H v u Q I r hw => hw.elim (fun q => (pg_tup hc h hn hst).run pins s σ H v u Q I r q) fun q => (pg_unl hc h hn hst).run pins s σ H v u Q I r q⟩
  refine pg_imp both fun v σ H Q ⟨d, ρ, L, μ, h, ρ', h', rel, rv, e, kk⟩ => ?_
  unfold tTup at e
  split at e
  · rename_i ds
    split at e
    · rename_i hl
      obtain ⟨a, vs, rfl, t, q⟩ := rv
      exact .inl ⟨a, vs, rfl, t.sq, by rw [q.length]; exact hl, ds, ρ, L, μ, h, ρ', h', rel, q, e, kk⟩
    · cases e
  · split at e
    · rename_i ds ed
      split at e
      · rename_i hl
        obtain ⟨a, vs, rfl, t, q⟩ := lstD_ok rel.hr rv ed
        exact .inr ⟨a, vs, rfl, t, by rw [q.length]; exact hl, ds, ρ, L, μ, h, ρ', h', rel, q, e, kk⟩
      · cases e
    · cases e
/-- o[i] as a target -/
def tSub (mo mi : M D) : TM := fun d ρ h => match mo ρ h with
  | some (.ok c h1) => (match mi ρ h1 with
    | some (.ok k h2) => (match putD h2 c k d with
      | some h3 => some (ρ, h3)
      | none => none)
    | _ => none)
  | _ => none
theorem g_sub {o i : Expr} {mo mi : M D} {pos : Pos} (hu : X.A.units + 65 < cLine) (ho : PE X o (rd X W mo)) (hi : PE X i (rd X W mi))
    (ha : ∀ v, assign (.Subscript o i pos) X.env v = (do
      let ov ← holding [v] (eval o X.env)
      let iv ← holding [v, ov] (eval i X.env)
      standAt pos
      holding [v, ov, iv] (setItem ov iv v)
      release [v, ov, iv] []) := by intro _; rfl) : PG X (.Subscript o i pos) (rdTg X (tSub mo mi) []) := by
  refine pg_imp (pg_sub ho hi (PSet.or' set_list (set_dct hu)) ha) fun v σ H Q ⟨d, ρ, L, μ, h, ρ', h', rel, rv, e, kk⟩ => ?_
  unfold tSub at e
  split at e
  · rename_i c h1 e1
    refine ⟨ρ, L, μ, h, rel, ?_⟩
    rw [e1]
    intro μ1 H1 g1 r1 x rx
    have rel1 := rel.go g1 r1
    split at e
    · rename_i k h2 e2
      refine ⟨ρ, L, μ1, h1, rel1, ?_⟩
      rw [e2]
      intro μ2 H2 g2 r2 y ry
      split at e
      · rename_i h3 e3
        cases e
        exact put_ok r2 (rx.go r1 g2) ry ((rv.go rel.hr g1).go r1 g2) e3 fun μ3 H3 g3 r3 => kk σ μ3 H3 (g1.trans (g2.trans g3)) ((rel1.go g2 r2).go g3 r3) ⟨rfl, fun _ _ => rfl⟩
      · cases e
    · cases e
  · cases e
def mAsg (t : TM) (m : M D) : MS := mDo m fun d => fun ρ h => match t d ρ h with
  | some (ρ', h') => some (.nx ρ' h')
  | none => none
theorem s_asg {tg e : Expr} {t : TM} {tv : List Nat} {m : M D} {pos : Pos} (he : PE X e (rd X W m)) (hg : PG X tg (rdTg X t tv)) (hs : swapsWithSole [tg] e pos.line X.env = pure false := by rfl) (hw : swappedStores [tg] e X.env = pure none := by rfl)
    (h1 : (assignEach [tg] X.env).map (·.2) = [assign tg X.env] := by rfl) : PS X (.Assign [tg] e pos) (rdS X W (mAsg t m)) := by
  refine ps_imp (ps_asg he hg hs hw h1) fun D σ H q => rdG_imp (rdS_bind q) fun ρ L d h1 μ1 H1 ⟨rel1, q1⟩ x rx => ?_
  split at q1
  · rename_i ρ' h' e1
    exact ⟨d, ρ, L, μ1, h1, ρ', h', rel1, rx, e1, fun σ' μ' H' g r _ => q1 σ' μ' H' g r⟩
  · exact q1.none
end

/-! ### loops -/
def relk (L : List Nat) (h : Hs) : Hs := ⟨h.n, h.t, L⟩
def unlk (L : List Nat) : Option RS → Option RS
  | some (.nx ρ h) => some (.nx ρ (relk L h))
  | some (.bk ρ h) => some (.bk ρ (relk L h))
  | some (.ct ρ h) => some (.ct ρ (relk L h))
  | some (.rt d h) => some (.rt d (relk L h))
  | some (.ex c fs ρ h) => some (.ex c fs ρ (relk L h))
  | none => none
theorem HR.relk {C : Ct} {L L' : List Nat} {μ : Mu} {H : Hp} {h : Hs} (r : HR C L μ H h) : HR C L' μ H (Rh.relk L' h) := ⟨rfl, r.len, r.nd, r.tb, r.ob⟩
theorem Rel.relk {C : Ct} {L L' : List Nat} {ρ : En} {σ : L2.St} {μ : Mu} {H : Hp} {h : Hs} (r : Rel C L ρ σ μ H h) : Rel C L' ρ σ μ H (Rh.relk L' h) := ⟨r.len, r.val, r.hr.relk⟩
theorem Go.less {l L : List Nat} {μ μ' : Mu} {H H' : Hp} (g : Go (l ++ L) μ H μ' H') : Go L μ H μ' H' := ⟨fun i m => g.lk i (List.mem_append_right _ m), g.keep, g.dom, g.ext, g.new⟩
theorem SatS.unlk {X : Cx} {W : WX} {D0 : Ends} {l L : List Nat} {μ : Mu} {H : Hp} {o : Option RS} (q : SatS X W D0 L μ H (unlk L o)) : SatS X W D0 (l ++ L) μ H o := by
  cases o with
  | none => exact q.none
  | some o =>
    cases o with
    | nx ρ h => exact fun σ' μ' H' g r => q σ' μ' H' g.less r.relk
    | bk ρ h => exact fun σ' μ' H' g r => q σ' μ' H' g.less r.relk
    | ct ρ h => exact fun σ' μ' H' g r => q σ' μ' H' g.less r.relk
    | rt d h => exact fun μ' H' x g r rv => q μ' H' x g.less r.relk rv
    | ex c fs ρ h => exact fun cls d σ' μ' H' g r rx => q cls d σ' μ' H' g.less r.relk rx
def loopF (t : TM) (body : MS) : List D → MS
  | [], ρ, h => some (.nx ρ h)
  | d :: ds, ρ, h => match t d ρ h with
    | none => none
    | some (ρ1, h1) => match body ρ1 h1 with
      | some (.nx ρ2 h2) => loopF t body ds ρ2 h2
      | some (.ct ρ2 h2) => loopF t body ds ρ2 h2
      | some (.bk ρ2 h2) => some (.nx ρ2 h2)
      | o => o
def mFor (mi : M (List D × List Nat)) (t : TM) (body : MS) : MS := mDo mi fun p => fun ρ h => unlk h.lk (loopF t body p.1 ρ (relk (p.2 ++ h.lk) h))
section
variable {X : Cx} {W : WX}
theorem s_for {tg iter : Expr} {body : List Stmt} {mi : M (List D × List Nat)} {t : TM} {mb : MS} {tv : List Nat} {pos : Pos} (hp : PassesOwn (model X.prog X.w) X.A X.env X.xe) (hc : X.calm = true) (hi : PI X tg iter (rdI X W mi)) (hg : PG X tg (rdTg X t tv)) (hb : PSs X body (rdS X W mb))
    (hs : ∀ x, foldedSetIterable iter X.env x = pure x := by intro _; rfl) : PS X (.For tg iter body [] pos) (rdS X W (mFor mi t mb)) := by
  refine ps_imp (ps_for hp hc hi hg hb hs) fun D σ H q => rdG_imp (rdS_bind q) fun ρ L p h1 μ1 H1 ⟨rel1, q1⟩ J cov => ?_
  obtain ⟨ds, lks⟩ := p
  dsimp only at q1 cov
  rw [rel1.hr.lk] at q1
  have q2 := SatS.unlk (l := lks) q1
  have rel2 := rel1.relk (L' := lks ++ L)
  refine ⟨fun i m σ2 H2 => m = ds.length - i ∧ i ≤ ds.length ∧ ∃ μ2 ρ2 h2, Go (lks ++ L) μ1 H1 μ2 H2 ∧ Rel (ctX X) (lks ++ L) ρ2 σ2 μ2 H2 h2 ∧ SatS X W D (lks ++ L) μ2 H2 (loopF t mb (ds.drop i) ρ2 h2), ⟨ds.length, by simp, Nat.zero_le _, μ1, ρ, _, .refl, rel2, q2⟩, ?_⟩
  rintro i m σ2 H2 ⟨rfl, hi, μ2, ρ2, h2, g2, r2, k2⟩
  have st : Still lks μ1 H1 μ2 H2 := ⟨g2.stay rel2.hr, fun n m => g2.lk n (List.mem_append_left _ m)⟩
  by_cases hlt : i < ds.length
  · refine .inr ⟨cov.go i μ2 H2 st hlt, fun σ3 H3 => i + 1 ≤ ds.length ∧ ∃ μ3 ρ3 h3, Go (lks ++ L) μ1 H1 μ3 H3 ∧ Rel (ctX X) (lks ++ L) ρ3 σ3 μ3 H3 h3 ∧ SatS X W D (lks ++ L) μ3 H3 (loopF t mb (ds.drop (i + 1)) ρ3 h3), fun σ3 H3 ⟨q1, q2⟩ => ⟨ds.length - (i + 1), by omega, rfl, q1, q2⟩, fun x H' y => ?_⟩
    have hd : ds[i]? = some ds[i] := List.getElem?_eq_getElem hlt
    obtain ⟨sm, dm, rv⟩ := cov.yld i μ2 H2 x H' _ st y hd
    have g3 : Go (lks ++ L) μ2 H2 μ2 H' := .same r2.hr sm dm
    have r3 := r2.go g3 (r2.hr.same sm)
    rw [List.drop_eq_getElem_cons hlt] at k2
    unfold loopF at k2
    cases e1 : t ds[i] ρ2 h2 with
    | none => rw [e1] at k2; exact k2.none
    | some pp =>
      obtain ⟨ρ3, h3⟩ := pp
      simp only [e1] at k2
      refine ⟨ds[i], ρ2, lks ++ L, μ2, h2, ρ3, h3, r3, rv, e1, fun σ4 μ4 H4 g4 r4 _ => ⟨ρ3, lks ++ L, μ4, h3, r4, ?_⟩⟩
      have g5 := g2.trans (g3.trans g4)
      have k3 := k2.start (g3.trans g4)
      cases e2 : mb ρ3 h3 with
      | none => simp only [e2] at k3; exact k3.none
      | some o =>
        cases o with
        | nx ρ4 h4 =>
          simp only [e2] at k3
          exact fun σ5 μ5 H5 g6 r6 => ⟨hlt, μ5, ρ4, h4, g5.trans g6, r6, k3.start g6⟩
        | ct ρ4 h4 =>
          simp only [e2] at k3
          exact fun σ5 μ5 H5 g6 r6 => ⟨hlt, μ5, ρ4, h4, g5.trans g6, r6, k3.start g6⟩
        | bk ρ4 h4 => simp only [e2] at k3; exact k3
        | rt n h4 => simp only [e2] at k3; exact k3
        | ex c fs ρ4 h4 => simp only [e2] at k3; exact k3
  · have e : i = ds.length := by omega
    subst e
    rw [List.drop_length] at k2
    exact .inl ⟨cov.stop _ μ2 H2 st rfl, k2 σ2 μ2 H2 .refl r2⟩
def loopW (c : M Bool) (body : MS) : Nat → MS
  | 0, _, _ => none
  | n + 1, ρ, h => mDo c (fun k => if k = true then fun ρ1 h1 => (match body ρ1 h1 with
      | some (.nx ρ2 h2) => loopW c body n ρ2 h2
      | some (.ct ρ2 h2) => loopW c body n ρ2 h2
      | some (.bk ρ2 h2) => some (.nx ρ2 h2)
      | o => o) else mNx) ρ h
theorem s_while {c : Expr} {body : List Stmt} {mc : M Bool} {mb : MS} {pos : Pos} (n : Nat) (hp : PassesOwn (model X.prog X.w) X.A X.env X.xe) (hc : PT X c (rdT X W mc)) (hb : PSs X body (rdS X W mb)) : PS X (.While c body [] pos) (rdS X W (loopW mc mb n)) := by
  refine ps_imp (ps_while hp hc hb) fun D σ H ⟨ρ, L, μ, h, rel, q⟩ => ?_
  refine ⟨fun m σ2 H2 => ∃ L2 μ2 ρ2 h2, Rel (ctX X) L2 ρ2 σ2 μ2 H2 h2 ∧ SatS X W D L2 μ2 H2 (loopW mc mb m ρ2 h2), ⟨n, L, μ, ρ, h, rel, q⟩, ?_⟩
  rintro m σ2 H2 ⟨L, μ2, ρ2, h2, rel2, k2⟩
  cases m with
  | zero => exact k2.none
  | succ m =>
    have k2 : rdS X W (mDo mc (fun k => if k = true then fun ρ1 h1 => (match mb ρ1 h1 with
      | some (.nx ρ2 h2) => loopW mc mb m ρ2 h2
      | some (.ct ρ2 h2) => loopW mc mb m ρ2 h2
      | some (.bk ρ2 h2) => some (.nx ρ2 h2)
      | o => o) else mNx)) D σ2 H2 := ⟨ρ2, L, μ2, h2, rel2, k2⟩
    refine rdG_imp (rdS_bind k2) fun ρ3 L3 k h3 μ3 H3 ⟨rel3, k3⟩ => ?_
    cases k with
    | false =>
      rw [if_neg Bool.false_ne_true] at k3 ⊢
      exact k3 σ2 μ3 H3 .refl rel3
    | true =>
      rw [if_pos rfl] at k3 ⊢
      refine ⟨fun σ4 H4 => ∃ L4 μ4 ρ4 h4, Rel (ctX X) L4 ρ4 σ4 μ4 H4 h4 ∧ SatS X W D L4 μ4 H4 (loopW mc mb m ρ4 h4), fun σ4 H4 q => ⟨m, Nat.lt_succ_self _, q⟩, ρ3, L3, μ3, h3, rel3, ?_⟩
      cases e2 : mb ρ3 h3 with
      | none => simp only [e2] at k3; exact k3.none
      | some o =>
        cases o with
        | nx ρ4 h4 => simp only [e2] at k3; exact fun σ5 μ5 H5 g6 r6 => ⟨L3, μ5, ρ4, h4, r6, k3.start g6⟩
        | ct ρ4 h4 => simp only [e2] at k3; exact fun σ5 μ5 H5 g6 r6 => ⟨L3, μ5, ρ4, h4, r6, k3.start g6⟩
        | bk ρ4 h4 => simp only [e2] at k3; exact k3
        | rt n h4 => simp only [e2] at k3; exact k3
        | ex c fs ρ4 h4 => simp only [e2] at k3; exact k3
end
end Rh

set_option Elab.async false
set_option linter.all false
set_option maxRecDepth 100000
set_option maxHeartbeats 2000000
set_option autoImplicit false
namespace Rh
open PySem PySem.Spec PyProof.Rows L2
variable [Tbs]

/-! ### blocks with names of their own -/
def wipeE (ρ : En) : List Nat → En
  | [] => ρ
  | v :: vs => (wipeE ρ vs).set v none
abbrev WF : WX := fun _ _ _ _ => False
section
variable {C : Ct} {L : List Nat} {ρ : En} {σ σ' : L2.St} {μ μ1 μ2 : Mu} {H H1 H2 : Hp} {h h1 h' : Hs}
theorem wipe_get : ∀ {vs : List Nat} {i : Nat}, (wipe σ vs)[i]? = if i ∈ vs then σ[i]?.map (fun _ => none) else σ[i]?
  | [], i => by simp [wipe]
  | v :: vs, i => by
    show ((wipe σ vs).set v none)[i]? = _
    by_cases h : v = i
    · subst h
      rw [if_pos List.mem_cons_self]
      by_cases hl : v < σ.length
      · rw [List.getElem?_set_self (by rw [wipe_length]; exact hl), List.getElem?_eq_getElem hl]
        rfl
      · rw [List.getElem?_eq_none (by rw [List.length_set, wipe_length]; exact Nat.le_of_not_lt hl), List.getElem?_eq_none (Nat.le_of_not_lt hl)]
        rfl
    · rw [List.getElem?_set_ne h, wipe_get]
      by_cases hm : i ∈ vs
      · rw [if_pos hm, if_pos (List.mem_cons_of_mem _ hm)]
      · rw [if_neg hm, if_neg fun q => (List.mem_cons.mp q).elim (fun e => h e.symm) hm]
theorem wipeE_len : ∀ vs : List Nat, (wipeE ρ vs).length = ρ.length
  | [] => rfl
  | v :: vs => by show ((wipeE ρ vs).set v none).length = _; rw [List.length_set, wipeE_len]
theorem wipeE_get : ∀ {vs : List Nat} {i : Nat} {d : D}, (wipeE ρ vs)[i]? = some (some d) → i ∉ vs ∧ ρ[i]? = some (some d)
  | [], i, d, e => ⟨by simp, e⟩
  | v :: vs, i, d, e => by
    have e : ((wipeE ρ vs).set v none)[i]? = some (some d) := e
    by_cases h : v = i
    · subst h
      by_cases hl : v < (wipeE ρ vs).length
      · rw [List.getElem?_set_self hl] at e; cases e
      · rw [List.getElem?_eq_none (by rw [List.length_set]; exact Nat.le_of_not_lt hl)] at e; cases e
    · rw [List.getElem?_set_ne h] at e
      obtain ⟨a, b⟩ := wipeE_get e
      exact ⟨fun q => (List.mem_cons.mp q).elim (fun e => h e.symm) a, b⟩
theorem wipe_eq {vs : List Nat} (q : Bt vs σ σ') : wipe σ' vs = wipe σ vs := by
  apply List.ext_getElem?
  intro i
  rw [wipe_get, wipe_get]
  by_cases hm : i ∈ vs
  · rw [if_pos hm, if_pos hm]
    by_cases hl : i < σ.length
    · rw [List.getElem?_eq_getElem hl, List.getElem?_eq_getElem (by rw [q.1]; exact hl)]; rfl
    · rw [List.getElem?_eq_none (Nat.le_of_not_lt hl), List.getElem?_eq_none (by rw [q.1]; exact Nat.le_of_not_lt hl)]
  · rw [if_neg hm, if_neg hm, q.2 i hm]
theorem wipe_wipe {vs : List Nat} : wipe (wipe σ vs) vs = wipe σ vs := wipe_eq ⟨wipe_length _ _, fun i hi => by rw [wipe_get, if_neg hi]⟩
theorem Rel.wipe {vs : List Nat} (r : Rel C L ρ σ μ H h) : Rel C L (wipeE ρ vs) (wipe σ vs) μ H h := by
  refine ⟨by rw [wipeE_len, wipe_length]; exact r.len, fun i d e => ?_, r.hr⟩
  obtain ⟨hm, e⟩ := wipeE_get e
  obtain ⟨v, e1, rv⟩ := r.val i d e
  exact ⟨v, by rw [wipe_get, if_neg hm]; exact e1, rv⟩
/-- an object that is no box is changed -/
theorem HR.side (r : HR C L μ H h) {a : Addr} {u o : HO} (ha : H a = some u) (na : a ∉ μ) (nt : ∀ xs, u ≠ .tup xs) (nf : ∀ ob v, u ≠ .frz ob v) (nb : ∀ ps, u ≠ .tbl ps := by exact fun _ z => nomatch z) (nc : ∀ q, u ≠ LamX.CodeO a q := by exact fun _ z => nomatch z) : HR C L μ (L2.upd H a o) h ∧ Stay μ H μ (L2.upd H a o) := by
  have st : Stay μ H μ (L2.upd H a o) := ⟨fun _ _ e => e, fun b xs e => by rw [upd_ne (fun z => by subst z; rw [ha] at e; cases e; exact nt _ rfl)]; exact e, fun b ob v e => by rw [upd_ne (fun z => by subst z; rw [ha] at e; cases e; exact nf _ _ rfl)]; exact e⟩
  refine ⟨⟨r.lk, r.len, r.nd, ⟨fun p hp => ?_, fun p hp => ?_⟩, fun i b e => ?_⟩, st⟩
  · obtain ⟨ps, h1, h2, h3⟩ := r.tb.1 p hp
    refine ⟨ps, (upd_ne fun z => by rw [← z, h1] at ha; cases ha; exact nb _ rfl).trans h1, h2, fun pos cv hc => ?_⟩
    obtain ⟨c, e1, e2⟩ := h3 pos cv hc
    exact ⟨c, e1, (upd_ne fun z => by rw [← z, e2] at ha; cases ha; exact nc p.2 (by rw [z])).trans e2⟩
  · have e2 := r.tb.2 p hp
    exact (upd_ne fun z => by rw [← z, e2] at ha; cases ha; exact nc p.2 (by rw [z])).trans e2
  obtain ⟨o', e1, q⟩ := r.ob i b e
  exact ⟨o', e1, q.stay st (upd_ne (fun z => by subst z; exact na (List.mem_of_getElem? e)))⟩
theorem Go.side (g : Go L μ1 H1 μ H) (r : HR C L μ1 H1 h1) {a : Addr} {o : HO} (ha : H1 a = none) : Go L μ1 H1 μ (L2.upd H a o) := by
  refine ⟨fun i m b e => ?_, fun b u e nt n => ?_, fun b e => ?_, g.ext, g.new⟩
  · obtain ⟨u, q⟩ := r.some_at e
    rw [upd_ne fun z => by subst z; rw [ha] at q; cases q]
    exact g.lk i m b e
  · rw [upd_ne fun z => by subst z; rw [ha] at e; cases e]
    exact g.keep b u e nt n
  · by_cases z : b = a
    · subst z; exact NoT.none ha
    · rw [upd_ne z] at e; exact g.dom b e
/-- an object becomes a box -/
theorem HR.adopt (r : HR C L μ H h) {a : Addr} {o : O} (na : a ∉ μ) (q : ObR C (μ ++ [a]) H a o) (e : h.new o = some h') : HR C L (μ ++ [a]) H h' := by
  have st : Stay μ H (μ ++ [a]) H := ⟨fun i b e => by rw [List.getElem?_append_left (List.getElem?_eq_some_iff.mp e).1]; exact e, fun _ _ e => e, fun _ _ _ e => e⟩
  refine ⟨(Hs.new_lk e).trans r.lk, by rw [List.length_append, r.len, Hs.new_n e]; rfl, ⟨?_, r.nd.2.trans ⟨[a], rfl⟩⟩, r.tb, fun i b eb => ?_⟩
  · rw [List.nodup_append]
    exact ⟨r.nd.1, by simp, fun x hx y hy => by rw [List.mem_singleton] at hy; subst hy; exact fun z => na (z ▸ hx)⟩
  · rw [Hs.new_get e]
    by_cases hi : i = h.n
    · subst hi
      rw [if_pos rfl]
      rw [← r.len, List.getElem?_append_right (Nat.le_refl _)] at eb
      simp at eb; subst eb
      exact ⟨o, rfl, q⟩
    · rw [if_neg hi]
      have hl := (List.getElem?_eq_some_iff.mp eb).1
      rw [List.length_append, List.length_singleton, r.len] at hl
      rw [List.getElem?_append_left (by rw [r.len]; omega)] at eb
      obtain ⟨u, e1, q1⟩ := r.ob i b eb
      exact ⟨u, e1, q1.stay st rfl⟩
theorem Go.adopt (g : Go L μ1 H1 μ H) {a : Addr} (ha : H1 a = none) : Go L μ1 H1 (μ ++ [a]) H := by
  refine ⟨g.lk, g.keep, g.dom, ?_, fun b m => ?_⟩
  · obtain ⟨r, e⟩ := g.ext
    exact ⟨r ++ [a], by rw [e, List.append_assoc]⟩
  · rcases List.mem_append.mp m with m | m
    · exact g.new b m
    · rw [List.mem_singleton] at m; subst m; exact .inr (NoT.none ha)
theorem Go.not_mem (g : Go L μ1 H1 μ H) (r : HR C L μ1 H1 h1) {a : Addr} (ha : H1 a = none) (nm : a ∉ μ) (g2 : Go L μ H μ2 H2) {u : HO} (hu : H a = some u) (nu : ∀ ps, u ≠ .tbl ps := by exact fun _ z => nomatch z) : a ∉ μ2 := fun m => by
  rcases g2.new a m with q | q
  · exact nm q
  · exact q.not hu nu
end
/-! ### list comprehensions -/
def turnC (t : TM) (conds : M Bool) (elt : M D) (ρ : En) (d : D) (h : Hs) : Option (Option D × Hs) := match t d ρ h with
  | none => none
  | some (ρ1, h1) => match conds ρ1 h1 with
    | some (.ok false h2) => some (none, h2)
    | some (.ok true h2) => (match elt ρ1 h2 with
      | some (.ok x h3) => some (some x, h3)
      | _ => none)
    | _ => none
def consO {α : Type} (o : Option α) (es : List α) : List α := match o with
  | some x => x :: es
  | none => es
def loopC (t : TM) (conds : M Bool) (elt : M D) (ρ : En) : List D → Hs → Option (List D × Hs)
  | [], h => some ([], h)
  | d :: ds, h => match turnC t conds elt ρ d h with
    | none => none
    | some (o, h1) => match loopC t conds elt ρ ds h1 with
      | none => none
      | some (es, h2) => some (consO o es, h2)
def mLc (mi : M (List D × List Nat)) (t : TM) (conds : M Bool) (elt : M D) (vs : List Nat) : M D := mBind mi fun p => fun ρ h => if p.1.length ≤ 1000000 then (match loopC t conds elt (wipeE ρ vs) p.1 (relk (p.2 ++ h.lk) h) with
  | some (es, h') => (Nv.n (.lst es)).lift (relk h.lk h')
  | none => none) else none
section
variable {X : Cx} {W : WX} {σ : L2.St} {H : Hp} {Q : VK}
theorem Bt.wipe {vs : List Nat} {σ2 : L2.St} (b : Bt vs (L2.wipe σ vs) σ2) : L2.wipe σ2 vs = L2.wipe σ vs := by rw [wipe_eq b, wipe_wipe]
/-- the reading of a list comprehension -/
theorem rd_lc {mi : M (List D × List Nat)} {t : TM} {conds : M Bool} {elt : M D} {vs : List Nat} (q : rd X W (mLc mi t conds elt vs) σ H Q) :
    tLc (rdI X W mi) (rdTg X t vs) (rdT X WF conds) (rd X WF elt) vs σ H Q := by
  refine rdG_imp (rdG_bind q) fun ρ L p h1 μ1 H1 ⟨rel1, q1⟩ J cov l hl => ?_
  obtain ⟨ds, lks⟩ := p
  dsimp only at q1 cov
  split at q1
  rotate_left
  · exact q1.none
  rename_i hlen
  rw [rel1.hr.lk] at q1
  cases eL : loopC t conds elt (wipeE ρ vs) ds (relk (lks ++ L) h1) with
  | none => simp only [eL] at q1; exact q1.none
  | some p =>
    obtain ⟨es, hf⟩ := p
    simp only [eL] at q1
    have rel2 := rel1.relk (L' := lks ++ L)
    refine ⟨fun i m Hc => m = ds.length - i ∧ i ≤ ds.length ∧ ∃ μi hi acc vacc rest, Go (lks ++ L) μ1 H1 μi Hc ∧ HR (ctX X) (lks ++ L) μi Hc hi ∧ Hc l = some (.lst vacc) ∧ l ∉ μi ∧ RepL (ctX X) μi Hc acc vacc ∧ vacc.length ≤ i ∧ loopC t conds elt (wipeE ρ vs) (ds.drop i) hi = some (rest, hf) ∧ acc ++ rest = es,
      ⟨ds.length, by simp, Nat.zero_le _, μ1, relk (lks ++ L) h1, [], [], es, ?_, ?_, upd_same, ?_, rfl, Nat.le_refl _, eL, rfl⟩, ?_⟩
    · obtain ⟨s1, d1⟩ := same_new (o := .lst []) hl
      exact .same rel2.hr s1 d1
    · exact rel2.hr.same (same_new (o := .lst []) hl).1
    · intro m; obtain ⟨u, e, _⟩ := rel2.hr.mut m; rw [hl] at e; cases e
    rintro i m Hc ⟨rfl, hi, μi, hh, acc, vacc, rest, gi, ri, hLc, nl, racc, hva, el, ea⟩
    have st : Still lks μ1 H1 μi Hc := ⟨gi.stay rel2.hr, fun n m => gi.lk n (List.mem_append_left _ m)⟩
    by_cases hlt : i < ds.length
    · refine .inr ⟨cov.go i μi Hc st hlt, fun H' => i + 1 ≤ ds.length ∧ ∃ μi hi acc vacc rest, Go (lks ++ L) μ1 H1 μi H' ∧ HR (ctX X) (lks ++ L) μi H' hi ∧ H' l = some (.lst vacc) ∧ l ∉ μi ∧ RepL (ctX X) μi H' acc vacc ∧ vacc.length ≤ i + 1 ∧ loopC t conds elt (wipeE ρ vs) (ds.drop (i + 1)) hi = some (rest, hf) ∧ acc ++ rest = es,
        fun H' ⟨q1, q2⟩ => ⟨ds.length - (i + 1), by omega, rfl, q1, q2⟩, fun x H' y => ?_⟩
      have hd : ds[i]? = some ds[i] := List.getElem?_eq_getElem hlt
      obtain ⟨sm, dm, rv⟩ := cov.yld i μi Hc x H' _ st y hd
      have g2 : Go (lks ++ L) μi Hc μi H' := .same ri sm dm
      have r2 := ri.same sm
      rw [List.drop_eq_getElem_cons hlt] at el
      unfold loopC at el
      cases et : turnC t conds elt (wipeE ρ vs) ds[i] hh with
      | none => rw [et] at el; cases el
      | some p =>
        obtain ⟨o, hn⟩ := p
        simp only [et] at el
        cases el2 : loopC t conds elt (wipeE ρ vs) (ds.drop (i + 1)) hn with
        | none => simp only [el2] at el; cases el
        | some p =>
          obtain ⟨rest2, hf2⟩ := p
          simp only [el2] at el
          cases el
          unfold turnC at et
          cases e1 : t ds[i] (wipeE ρ vs) hh with
          | none => rw [e1] at et; cases et
          | some p =>
            obtain ⟨ρ2, h2⟩ := p
            simp only [e1] at et
            have relw : Rel (ctX X) (lks ++ L) (wipeE ρ vs) (wipe σ vs) μi H' hh := (rel2.wipe (vs := vs)).go (gi.trans g2) r2
            refine ⟨ds[i], wipeE ρ vs, lks ++ L, μi, hh, ρ2, h2, relw, rv, e1, fun σ2 μ3 H3 g3 rel3 b3 => ⟨b3.wipe, ρ2, lks ++ L, μ3, h2, rel3, ?_⟩⟩
            have g13 := gi.trans (g2.trans g3)
            have hl' : H' l = some (.lst vacc) := sm _ _ hLc
            have hl3 : H3 l = some (.lst vacc) := g3.keep l _ hl' (fun _ z => nomatch z) nl
            have nl3 : l ∉ μ3 := (gi.trans g2).not_mem rel2.hr hl nl g3 hl'
            have ra3 : RepL (ctX X) μ3 H3 acc vacc := (racc.go ri g2).go r2 g3
            cases e2 : conds ρ2 h2 with
            | none => simp only [e2] at et; cases et
            | some p =>
              cases p with
              | ex c fs ρ3 => simp only [e2] at et; cases et
              | ok c h3 =>
                intro μ4 H4 g4 r4
                have hl4 : H4 l = some (.lst vacc) := g4.keep l _ hl3 (fun _ z => nomatch z) nl3
                have nl4 : l ∉ μ4 := g13.not_mem rel2.hr hl nl3 g4 hl3
                have ra4 := ra3.go rel3.hr g4
                cases c with
                | false =>
                  simp only [e2] at et
                  cases et
                  refine iteF ?_
                  exact ⟨hlt, μ4, _, acc, vacc, rest2, g13.trans g4, r4, hl4, nl4, ra4, by omega, el2, ea⟩
                | true =>
                  refine iteT ?_
                  simp only [e2] at et
                  refine ⟨ρ2, lks ++ L, μ4, h3, rel3.go g4 r4, ?_⟩
                  cases e3 : elt ρ2 h3 with
                  | none => simp only [e3] at et; cases et
                  | some p =>
                    cases p with
                    | ex c fs ρ4 => simp only [e3] at et; cases et
                    | ok xd h4 =>
                      simp only [e3] at et
                      cases et
                      intro μ5 H5 g5 r5 v rv
                      have hl5 : H5 l = some (.lst vacc) := g5.keep l _ hl4 (fun _ z => nomatch z) nl4
                      have nl5 : l ∉ μ5 := (g13.trans g4).not_mem rel2.hr hl nl4 g5 hl4
                      have ra5 := ra4.go r4 g5
                      obtain ⟨r6, st6⟩ := r5.side (o := .lst (vacc ++ [v])) hl5 nl5 (fun xs e => nomatch e) (fun ob u e => nomatch e)
                      refine ⟨vacc, hl5, small6' (by omega), hlt, μ5, _, acc ++ [xd], vacc ++ [v], rest2, ((g13.trans g4).trans g5).side rel2.hr hl, r6, upd_same, nl5, (ra5.stay st6).append ⟨v, [], rfl, rv.stay st6, rfl⟩, by rw [List.length_append, List.length_singleton]; omega, el2, ?_⟩
                      rw [List.append_assoc]
                      exact ea
    · have e : i = ds.length := by omega
      subst e
      rw [List.drop_length] at el
      unfold loopC at el
      cases el
      rw [List.append_nil] at ea
      subst ea
      refine .inl ⟨cov.stop _ μi Hc st rfl, ?_⟩
      have ri' := ri.relk (L' := L)
      unfold Nv.lift at q1
      dsimp only at q1
      cases en : (relk L hf).new (.lst acc) with
      | none => simp only [en] at q1; exact q1.none
      | some hz =>
        simp only [en] at q1
        have ra := ri'.adopt nl (o := .lst acc) ⟨vacc, hLc, racc.stay (stay_more fun _ _ e => e)⟩ en
        refine q1 (μi ++ [l]) Hc (gi.less.adopt hl) ra (.ref l) ⟨l, rfl, ?_⟩
        rw [← ri'.len, List.getElem?_append_right (Nat.le_refl _)]
        simp
theorem ts_nil : PTs X [] (rdT X W (mPure true)) := ⟨fun pins s σ H Q I q => by
  obtain ⟨_, _, _, _, _, k⟩ := rdG_pure q
  exact pts_nil.run pins s σ H Q I k⟩
theorem e_lc {elt tg iter : Expr} {ifs : List Expr} {scope : Scope} {own : List (Str × Nat)} {pos : Pos} {mi : M (List D × List Nat)} {t : TM} {mc : M Bool} {me : M D} {vs : List Nat} (hc : X.calm = true) (hN : X.N.Nodup) (ok : BlkOk X.N X.env.scope scope own) (hvs : own.map (fun x : Str × Nat => x.2) = vs)
    (hi : PI X tg iter (rdI X W mi))
    (hg : ∀ (s : Shared) (H : Hp) (C : Addr) (cl : List (Str × Addr)) (fp : List Addr), PG (X.blk s H scope (compEnvC scope cl C X.env) fp) tg (rdTg (X.blk s H scope (compEnvC scope cl C X.env) fp) t vs))
    (ht : ∀ (s : Shared) (H : Hp) (C : Addr) (cl : List (Str × Addr)) (fp : List Addr), PTs (X.blk s H scope (compEnvC scope cl C X.env) fp) ifs (rdT (X.blk s H scope (compEnvC scope cl C X.env) fp) WF mc))
    (he : ∀ (s : Shared) (H : Hp) (C : Addr) (cl : List (Str × Addr)) (fp : List Addr), PE (X.blk s H scope (compEnvC scope cl C X.env) fp) elt (rd (X.blk s H scope (compEnvC scope cl C X.env) fp) WF me))
    (hs : ∀ x, foldedSetIterable iter X.env x = pure x := by intro _; rfl) :
    PE X (.ListComp elt [⟨tg, iter, ifs, 0⟩] scope pos) (rd X W (mLc mi t mc me vs)) := by
  subst hvs
  exact pe_imp (pe_lc (g := rdTg X t (own.map (fun x : Str × Nat => x.2))) (tt := rdT X WF mc) (te := rd X WF me) hc hN hi ok hg ht he hs) fun σ H Q h => rd_lc h
/-- name = [..] on one line -/
theorem s_setLc {i : Nat} {y : Str} {py : Pos} {elt tg iter : Expr} {ifs : List Expr} {scope : Scope} {own : List (Str × Nat)} {pos spos : Pos} {mi : M (List D × List Nat)} {t : TM} {mc : M Bool} {me : M D} {vs : List Nat} (hc : X.calm = true) (hN : X.N.Nodup) (hy : X.N[i]? = some y) (hyl : X.env.scope.names.lookup y = some .local)
    (hsw : swapsWith (.ListComp elt [⟨tg, iter, ifs, 0⟩] scope pos) (some (.Name y py)) spos.line X.env = pure true) (ok : BlkOk X.N X.env.scope scope own) (hvs : own.map (fun x : Str × Nat => x.2) = vs)
    (hi : PI X tg iter (rdI X W mi))
    (hg : ∀ (s : Shared) (H : Hp) (C : Addr) (cl : List (Str × Addr)) (fp : List Addr), PG (X.blk s H scope (compEnvC scope cl C X.env) fp) tg (rdTg (X.blk s H scope (compEnvC scope cl C X.env) fp) t vs))
    (ht : ∀ (s : Shared) (H : Hp) (C : Addr) (cl : List (Str × Addr)) (fp : List Addr), PTs (X.blk s H scope (compEnvC scope cl C X.env) fp) ifs (rdT (X.blk s H scope (compEnvC scope cl C X.env) fp) WF mc))
    (he : ∀ (s : Shared) (H : Hp) (C : Addr) (cl : List (Str × Addr)) (fp : List Addr), PE (X.blk s H scope (compEnvC scope cl C X.env) fp) elt (rd (X.blk s H scope (compEnvC scope cl C X.env) fp) WF me))
    (hs : ∀ x, foldedSetIterable iter X.env x = pure x := by intro _; rfl) :
    PS X (.Assign [.Name y py] (.ListComp elt [⟨tg, iter, ifs, 0⟩] scope pos) spos) (rdS X W (mSet i (mLc mi t mc me vs))) := by
  subst hvs
  refine ps_imp (ps_setLc (i := i) (g := rdTg X t (own.map (fun x : Str × Nat => x.2))) (tt := rdT X WF mc) (te := rd X WF me) hc hN hy hyl hsw hi ok hg ht he hs) fun D σ H q => ?_
  refine rd_lc ?_
  exact rdG_imp (rdS_bind q) fun ρ L d h1 μ1 H1 ⟨rel1, q1⟩ v rv => q1 _ μ1 H1 .refl (rel1.set rv)
end
end Rh

set_option Elab.async false
set_option linter.all false
set_option maxRecDepth 100000
set_option maxHeartbeats 2000000
set_option autoImplicit false
namespace Rh
open PySem PySem.Spec PyProof.Rows L2
variable [Tbs]
section
variable {X : Cx}
end
end Rh

set_option Elab.async false
set_option linter.all false
set_option maxRecDepth 100000
set_option maxHeartbeats 2000000
set_option autoImplicit false
namespace Rh
open PySem PySem.Spec PyProof.Rows L2
variable [Tbs]

section
variable (C : Ct) (μ : Mu) (H : Hp)
def RepKV : List (Key × D) → List (Key × V) → Prop
  | [], vs => vs = []
  | p :: r, vs => ∃ v t, vs = (p.1, v) :: t ∧ RepV C μ H p.2 v ∧ RepKV r t
end
section
variable {C : Ct} {μ μ' : Mu} {H H' : Hp}
theorem RepKV.stay (s : Stay μ H μ' H') : ∀ {ps : List (Key × D)} {vs : List (Key × V)}, RepKV C μ H ps vs → RepKV C μ' H' ps vs
  | [], _, h => h
  | p :: r, _, ⟨v, t, e, h1, h2⟩ => ⟨v, t, e, h1.stay s, RepKV.stay s h2⟩
theorem RepKV.keys : ∀ {ps : List (Key × D)} {vs : List (Key × V)}, RepKV C μ H ps vs → vs.map (·.1) = ps.map (·.1)
  | [], _, h => by rw [show _ = [] from h]; rfl
  | p :: r, _, ⟨v, t, e, h1, h2⟩ => by rw [e, List.map_cons, List.map_cons, RepKV.keys h2]
end
section
variable {X : Cx} {W : WX} {σ : L2.St} {H : Hp} {Q : VK}
end
end Rh

set_option Elab.async false
set_option linter.all false
set_option maxRecDepth 100000
set_option maxHeartbeats 2000000
set_option autoImplicit false
namespace Rh
open PySem PySem.Spec PyProof.Rows L2
variable [Tbs]
open PySem.W PySem.Calls PySem.HandSPX
section
open Builtin Builtin.ObjectAttr
variable {prog : Program} {w : World} {A : Around} {R : Result → Shared → Prop} {hp : Heap} {g : Array GenState} {d : Drawn} {t : Nat} {os : OsState}
/-- a new exception's first field -/
theorem first_field {K : Frag} {B : String} {bmB : List Value} {name : Str} {tk : Tok} {v : Value} {x C : Addr} {fv : Array Value} {cd : ClassData}
    (SF : StoreFacts B bmB "object.__setattr__" "object") (X : K.In hp) (hx : hp.get? x = some { cls := .ref C, data := .fields fv }) (hcd : clsIn K C = some cd) (hp' : excOver K C bmB = true) (hh : cd.hasDict = true) (ha : findIn K (.ref C) name = some none)
    (hq : ∀ h' tk' dx, (∀ b o, b ≠ x → hp.get? b = some o → h'.get? b = some o) → hp.objs.size ≤ dx → dx ≠ x → h'.get? x = some { cls := .ref C, dict := some dx, data := .fields fv } →
      h'.Ns1 dx (fun y => if y = name then some v else none) → R (.ok (.ret .none)) ⟨h', g, d, tk', os⟩) :
    codeAny (model prog w) A (.call (.builtin "object.__setattr__") ⟨[.ref x, .str name tk, v], []⟩) R ⟨hp, g, d, t, os⟩ := by
  have I : InstAt hp x { cls := .ref C, data := .fields fv } C none := ⟨hx, rfl, rfl, trivial⟩
  have hxs : x ≠ hp.objs.size := Nat.ne_of_lt (Heap.lt_size hx)
  have hcls : Looks (model prog w) hp (classData C) cd := looks_clsIn X hcd
  have htk : takerIn K C name = some none := by
    unfold takerIn
    rw [ha]
    rfl
  refine osa_openX (r := none) SF X I hp' htk fun b => ?_
  dsimp only
  obtain ⟨nm, bs, mro, ns, qn, hd, sn, sb, ab, col, del⟩ := cd
  dsimp only at hh
  subst hh
  unfold storeInOwnDict ownDictForStores
  repeat (first | with_reducible refine store_in_new ?_ ?_ | with_reducible refine wpAny_loadPart_at hx ?_ | with_reducible refine hcls.at ?_ | wp_step)
  · exact ⟨_, #[], _, (Heap.get?_update_ne _ _ _ _ hxs.symm).trans (Heap.get?_push_at rfl rfl), rfl, fun e he => absurd he (by simp), fun _ => rfl⟩
  · intro h' tk' hn' hs
    have hx₁ : (hp.push { cls := .type "dict", data := .dict #[] }).get? x = some { cls := .ref C, data := .fields fv } := Heap.get?_push_of_some _ hx
    refine hq h' tk' hp.objs.size (fun b o hb ho => ?_) (Nat.le_refl _) hxs.symm ?_ hn'
    · exact (hs.2 b (Nat.ne_of_lt (Heap.lt_size ho))).trans ((Heap.get?_update_ne _ _ _ _ hb).trans (Heap.get?_push_of_some _ ho))
    · exact (hs.2 x hxs).trans (Heap.get?_update_self _ hx₁ rfl)
end
theorem size_one (v : Value) : [v].length ≤ sizeLine := by
  rw [sizeLine_eq]
  exact (by decide : 1 ≤ 16777216)
theorem ld_loc {M : Model} {s : Shared} {name : Str} {scope : Scope} {L a : Addr} {cd : Value} {m : Str → Option Value} {x : Str} {pos : Pos} {v : Value} {Q : Value → Shared → Prop} {A : Around} {E : Value → Shared → Prop} (hn : s.heap.Ns L m) (hv : m x = some v) (h : Q v s)
    (hk : scope.kind = .function := by rfl) (hl : (envOfC name scope L a cd).kindOf x = some .local := by rfl) (hd : (x == ("__debug__" : Str)) = false := by decide) :
    wpAny M A (eval (.Name x pos) (envOfC name scope L a cd)) Q E s := wpAny_Name (wpAny_loadName_local hk hl hn hv h) hd
/-- what stands behind the making of one, its field told -/
structure MadeX (fld : Str) (h h' : Heap) (e C dx : Addr) (v : Value) : Prop where
  keep : ∀ b o, h.get? b = some o → h'.get? b = some o
  new : h.objs.size ≤ e
  obj : ∃ oe vs, h'.get? e = some oe ∧ oe.cls = .ref C ∧ oe.dict = some dx ∧ oe.data = .fields vs ∧ vs[1]? = some .none
  big : h.objs.size ≤ dx
  ne : dx ≠ e
  ns : h'.Ns1 dx (fun y => if y = fld then some v else none)
/-- a class that can be made so: what the call of it gives -/
structure Mkr (P : Program) (w : World) (K : Frag) (C : Addr) (fld : Str) : Prop where
  made : ∀ (A : Around) (R : Result → Shared → Prop) (s : Shared) (v : Value), K.In s.heap → s.heap.NoLimit → A.depth + 1 < recursionLimit →
    (∀ h' tk e d, MadeX fld s.heap h' e C d v → R (.ok (.ret (.ref e))) { s with heap := h', toks := tk }) → codeAny (model P w) A (.call (.ref C) ⟨[v], []⟩) R s

namespace ExPlace
/-! class X(LookupError): def __init__(self, place): self.place = place -/
def iA (p1 p2 : Pos) : Arguments := { posonlyargs := [], args := [{ arg := "self", annotation := none, pos := p1 }, { arg := "place", annotation := none, pos := p2 }], vararg := none, kwonlyargs := [], kw_defaults := [], kwarg := none, defaults := [] }
def iB (q1 q2 q3 q4 : Pos) : List Stmt := [.Assign [.Attribute (.Name "self" q1) "place" q2] (.Name "place" q3) q4]
def iS : Scope := { kind := .function, names := [(PySem.Str.ofString "self", .local), (PySem.Str.ofString "place", .local)], isGenerator := false, isCoroutine := false, more := [] }
abbrev bmB : List Value := [.type "LookupError", .type "Exception", .type "BaseException", .type "object"]
/-- what the written part says of the class at C and of its __init__ at fI -/
structure Txt (K : Frag) (C fI : Addr) (qn : Str) : Prop where
  cls : ∃ nm q N bs sn sub ab col dd k0 k1 k2 k3 k5, K.lookup C = some (excClassObj nm q C N bs bmB true sn sub ab col dd k0 k1 k2 k3 k5 "LookupError.__new__")
  over : excOver K C bmB = true
  sa : findIn K (.ref C) "__setattr__" = some (some (.builtin "object.__setattr__"))
  no : findIn K (.ref C) "place" = some none
  ini : findIn K (.ref C) "__init__" = some (some (.ref fI))
  tI : typeIn K (.ref fI) = some (.type "function")
  fn : ∃ (oc : Value) (od : Option Addr) (doc pm : Value) (an : Option Addr) (cdv ct : Value) (osl : Array (Option Value)) (p1 p2 q1 q2 q3 q4 : Pos),
    K.lookup fI = some ⟨oc, od, .func (fnOf "__init__" qn (iA p1 p2) (iB q1 q2 q3 q4) iS .none .none doc pm an cdv ct), osl⟩ ∧ codeIn K cdv qn = true
structure Behind (h h' : Heap) (x C dx t1 : Addr) (v : Value) : Prop where
  keep : ∀ b o, b ≠ x → h.get? b = some o → h'.get? b = some o
  obj : h'.get? x = some { cls := .ref C, dict := some dx, data := .fields #[.ref t1, .none, .none, .none, .bool false, .none] }
  big : h.objs.size ≤ dx
  ne : dx ≠ x
  ns : h'.Ns1 dx (fun y => if y = "place" then some v else none)
section
variable {prog : Program} {w : World} {A : Around} {R : Result → Shared → Prop} {s : Shared} {K : Frag} {C fI : Addr} {qn : Str}
theorem init_runs (T : Txt K C fI qn) {x t0 : Addr} {v : Value} (X : K.In s.heap) (hlim : s.heap.NoLimit) (hx : s.heap.get? x = some (excO C t0)) (hroom : A.depth < recursionLimit)
    (hq : ∀ h' tk dx, Behind s.heap h' x C dx t0 v → R (.ok (.ret .none)) { s with heap := h', toks := tk }) :
    codeAny (model prog w) A (.call (.ref fI) ⟨[.ref x, v], []⟩) R s := by
  obtain ⟨oc, od, doc, pm, an, cdv, ct, osl, p1, p2, q1, q2, q3, q4, ho, hcd⟩ := T.fn
  obtain ⟨nm, q, N, bs, sn, sub, ab, col, dd, k0, k1, k2, k3, k5, hC⟩ := T.cls
  have hcl : clsIn K C = some { name := nm, bases := bs, mro := .ref C :: bmB, ns := N, qualname := q, hasDict := true, slotNames := sn, subclasses := sub, abstract := ab, collection := col, hasDel := false } := by unfold clsIn; rw [hC] <;> rfl
  refine Att.call_fn (binds := [("self", .ref x), ("place", v)]) X hlim ho hcd hroom (BindsTo.of_eq (by first | rfl | with_unfolding_all rfl)) (by first | rfl | decide | with_unfolding_all rfl) (fun s₁ IC => ?_) rfl rfl rfl
  obtain ⟨h₁, tk₁, rfl⟩ := IC.toInCall.same
  have k : ∀ b o, s.heap.get? b = some o → h₁.get? b = some o := IC.toInCall.keep
  have hn := IC.toInCall.ns
  have X₁ : K.In h₁ := X.keeps k
  have hx₁ := k _ _ hx
  show wpAny _ _ (execs _ _) _ _ _
  refine wpAny_execs_cons (plainObj_wpAny_Assign_Attribute ?_)
  refine ld_loc (v := v) hn (by first | rfl | with_unfolding_all rfl | kernel_rfl) (ld_loc (v := .ref x) hn (by first | rfl | with_unfolding_all rfl | kernel_rfl) ?_)
  refine set_plain X₁ (ox := excO C t0) (od := none) ⟨hx₁, rfl, rfl, trivial⟩ T.sa ?_
  refine first_field F.store_LookupError X₁ hx₁ hcl T.over rfl T.no (fun h₃ tk₃ dx k₃ dn dne hx₃ hn₃ => ?_)
  show wpAny _ _ (execs _ _) _ _ _
  have z : s.heap.objs.size < h₁.objs.size := hn.lt
  exact wpAny_execs_nil (hq h₃ tk₃ dx ⟨fun b o hb e => k₃ b o hb (k b o e), hx₃, Nat.le_of_lt (Nat.lt_of_lt_of_le z dn), dne, hn₃⟩)
theorem mkr (T : Txt K C fI qn) : Mkr prog w K C "place" := by
  refine ⟨fun A R s v X hlim hroom hq => ?_⟩
  obtain ⟨nm, q, N, bs, sn, sub, ab, col, dd, k0, k1, k2, k3, k5, hC⟩ := T.cls
  obtain ⟨hp, g, dr, tk, os⟩ := s
  have k : ∀ b o, hp.get? b = some o → ((hp.push (kdv_tup [v])).push (excO C hp.objs.size)).get? b = some o := fun b o e => Heap.get?_push_of_some _ (Heap.get?_push_of_some _ e)
  have hget : ((hp.push (kdv_tup [v])).push (excO C hp.objs.size)).get? (hp.objs.size + 1) = some (excO C hp.objs.size) := by heap_get
  refine call_own F.excBase_LookupError (fun _ => rfl) (X _ _ hC) (looks_findIn X T.ini) (fun self => bind_fn X self T.tI) (size_one v) ?_
  refine init_runs (s := ⟨(hp.push (kdv_tup [v])).push (excO C hp.objs.size), g, dr, tk, os⟩) T (X.keeps k) (hlim.keeps k) hget ?_ fun h' tk' dx ⟨k', hx, dn, dne, hns⟩ => ?_
  · show A.depth + 1 < recursionLimit
    exact hroom
  · have old : ∀ b o, hp.get? b = some o → h'.get? b = some o := fun b o e => k' b o (Nat.ne_of_lt (Nat.lt_succ_of_lt (Heap.lt_size e))) (k b o e)
    have z : hp.objs.size + 1 + 1 ≤ dx := by
      first
        | (simpa only [Heap.size_push] using dn)
        | exact dn
        | (have q := dn; rw [Heap.size_push, Heap.size_push] at q; exact q)
    exact ⟨rfl, hq h' tk' (hp.objs.size + 1) dx ⟨old, Nat.le_succ _, ⟨_, _, hx, rfl, rfl, rfl, rfl⟩, Nat.le_trans (Nat.le_trans (Nat.le_succ _) (Nat.le_succ _)) z, dne, hns⟩⟩
end
end ExPlace

namespace ExLine
/-! class X(ValueError): def __init__(self, line): self.line = line -/
def iA (p1 p2 : Pos) : Arguments := { posonlyargs := [], args := [{ arg := "self", annotation := none, pos := p1 }, { arg := "line", annotation := none, pos := p2 }], vararg := none, kwonlyargs := [], kw_defaults := [], kwarg := none, defaults := [] }
def iB (q1 q2 q3 q4 : Pos) : List Stmt := [.Assign [.Attribute (.Name "self" q1) "line" q2] (.Name "line" q3) q4]
def iS : Scope := { kind := .function, names := [(PySem.Str.ofString "self", .local), (PySem.Str.ofString "line", .local)], isGenerator := false, isCoroutine := false, more := [] }
abbrev bmB : List Value := [.type "ValueError", .type "Exception", .type "BaseException", .type "object"]
/-- what the written part says of the class at C and of its __init__ at fI -/
structure Txt (K : Frag) (C fI : Addr) (qn : Str) : Prop where
  cls : ∃ nm q N bs sn sub ab col dd k0 k1 k2 k3 k5, K.lookup C = some (excClassObj nm q C N bs bmB true sn sub ab col dd k0 k1 k2 k3 k5 "ValueError.__new__")
  over : excOver K C bmB = true
  sa : findIn K (.ref C) "__setattr__" = some (some (.builtin "object.__setattr__"))
  no : findIn K (.ref C) "line" = some none
  ini : findIn K (.ref C) "__init__" = some (some (.ref fI))
  tI : typeIn K (.ref fI) = some (.type "function")
  fn : ∃ (oc : Value) (od : Option Addr) (doc pm : Value) (an : Option Addr) (cdv ct : Value) (osl : Array (Option Value)) (p1 p2 q1 q2 q3 q4 : Pos),
    K.lookup fI = some ⟨oc, od, .func (fnOf "__init__" qn (iA p1 p2) (iB q1 q2 q3 q4) iS .none .none doc pm an cdv ct), osl⟩ ∧ codeIn K cdv qn = true
structure Behind (h h' : Heap) (x C dx t1 : Addr) (v : Value) : Prop where
  keep : ∀ b o, b ≠ x → h.get? b = some o → h'.get? b = some o
  obj : h'.get? x = some { cls := .ref C, dict := some dx, data := .fields #[.ref t1, .none, .none, .none, .bool false, .none] }
  big : h.objs.size ≤ dx
  ne : dx ≠ x
  ns : h'.Ns1 dx (fun y => if y = "line" then some v else none)
section
variable {prog : Program} {w : World} {A : Around} {R : Result → Shared → Prop} {s : Shared} {K : Frag} {C fI : Addr} {qn : Str}
theorem init_runs (T : Txt K C fI qn) {x t0 : Addr} {v : Value} (X : K.In s.heap) (hlim : s.heap.NoLimit) (hx : s.heap.get? x = some (excO C t0)) (hroom : A.depth < recursionLimit)
    (hq : ∀ h' tk dx, Behind s.heap h' x C dx t0 v → R (.ok (.ret .none)) { s with heap := h', toks := tk }) :
    codeAny (model prog w) A (.call (.ref fI) ⟨[.ref x, v], []⟩) R s := by
  obtain ⟨oc, od, doc, pm, an, cdv, ct, osl, p1, p2, q1, q2, q3, q4, ho, hcd⟩ := T.fn
  obtain ⟨nm, q, N, bs, sn, sub, ab, col, dd, k0, k1, k2, k3, k5, hC⟩ := T.cls
  have hcl : clsIn K C = some { name := nm, bases := bs, mro := .ref C :: bmB, ns := N, qualname := q, hasDict := true, slotNames := sn, subclasses := sub, abstract := ab, collection := col, hasDel := false } := by unfold clsIn; rw [hC] <;> rfl
  refine Att.call_fn (binds := [("self", .ref x), ("line", v)]) X hlim ho hcd hroom (BindsTo.of_eq (by first | rfl | with_unfolding_all rfl)) (by first | rfl | decide | with_unfolding_all rfl) (fun s₁ IC => ?_) rfl rfl rfl
  obtain ⟨h₁, tk₁, rfl⟩ := IC.toInCall.same
  have k : ∀ b o, s.heap.get? b = some o → h₁.get? b = some o := IC.toInCall.keep
  have hn := IC.toInCall.ns
  have X₁ : K.In h₁ := X.keeps k
  have hx₁ := k _ _ hx
  show wpAny _ _ (execs _ _) _ _ _
  refine wpAny_execs_cons (plainObj_wpAny_Assign_Attribute ?_)
  refine ld_loc (v := v) hn (by first | rfl | with_unfolding_all rfl | kernel_rfl) (ld_loc (v := .ref x) hn (by first | rfl | with_unfolding_all rfl | kernel_rfl) ?_)
  refine set_plain X₁ (ox := excO C t0) (od := none) ⟨hx₁, rfl, rfl, trivial⟩ T.sa ?_
  refine first_field F.store_ValueError X₁ hx₁ hcl T.over rfl T.no (fun h₃ tk₃ dx k₃ dn dne hx₃ hn₃ => ?_)
  show wpAny _ _ (execs _ _) _ _ _
  have z : s.heap.objs.size < h₁.objs.size := hn.lt
  exact wpAny_execs_nil (hq h₃ tk₃ dx ⟨fun b o hb e => k₃ b o hb (k b o e), hx₃, Nat.le_of_lt (Nat.lt_of_lt_of_le z dn), dne, hn₃⟩)
theorem mkr (T : Txt K C fI qn) : Mkr prog w K C "line" := by
  refine ⟨fun A R s v X hlim hroom hq => ?_⟩
  obtain ⟨nm, q, N, bs, sn, sub, ab, col, dd, k0, k1, k2, k3, k5, hC⟩ := T.cls
  obtain ⟨hp, g, dr, tk, os⟩ := s
  have k : ∀ b o, hp.get? b = some o → ((hp.push (kdv_tup [v])).push (excO C hp.objs.size)).get? b = some o := fun b o e => Heap.get?_push_of_some _ (Heap.get?_push_of_some _ e)
  have hget : ((hp.push (kdv_tup [v])).push (excO C hp.objs.size)).get? (hp.objs.size + 1) = some (excO C hp.objs.size) := by heap_get
  refine call_own F.excBase_ValueError (fun _ => rfl) (X _ _ hC) (looks_findIn X T.ini) (fun self => bind_fn X self T.tI) (size_one v) ?_
  refine init_runs (s := ⟨(hp.push (kdv_tup [v])).push (excO C hp.objs.size), g, dr, tk, os⟩) T (X.keeps k) (hlim.keeps k) hget ?_ fun h' tk' dx ⟨k', hx, dn, dne, hns⟩ => ?_
  · show A.depth + 1 < recursionLimit
    exact hroom
  · have old : ∀ b o, hp.get? b = some o → h'.get? b = some o := fun b o e => k' b o (Nat.ne_of_lt (Nat.lt_succ_of_lt (Heap.lt_size e))) (k b o e)
    have z : hp.objs.size + 1 + 1 ≤ dx := by
      first
        | (simpa only [Heap.size_push] using dn)
        | exact dn
        | (have q := dn; rw [Heap.size_push, Heap.size_push] at q; exact q)
    exact ⟨rfl, hq h' tk' (hp.objs.size + 1) dx ⟨old, Nat.le_succ _, ⟨_, _, hx, rfl, rfl, rfl, rfl⟩, Nat.le_trans (Nat.le_trans (Nat.le_succ _) (Nat.le_succ _)) z, dne, hns⟩⟩
end
end ExLine
/-! ### made in the hand layer -/
theorem relO_one {fld : Str} {v : V} {v' : Value} (r : RelV v v') (f : Str) : RelO (List.lookup f [(fld, v)]) (if f = fld then some v' else none) := by
  by_cases hw : f = fld
  · subst hw
    rw [if_pos rfl]
    have q : List.lookup f [(f, v)] = some v := by simp [List.lookup]
    rw [q]
    exact r
  · rw [if_neg hw]
    have qw : (f == fld) = false := by simpa using hw
    have q2 : List.lookup f [(fld, v)] = none := by simp [List.lookup, qw]
    rw [q2]
    trivial
section
variable {X : Cx} {C : Addr} {fld : Str}
/-- X(e) -/
def tMk1 (C : Addr) (fld : Str) (ta : TA) : L2.St → Hp → XK → Prop := fun σ H Q => ta σ H fun vs H1 => ∃ v, vs = [v] ∧ ∀ d, H1 d = none → Q (.ref C) (some d) (upd H1 d (.xd [(fld, v)]))
theorem pmk_one {cn : Str} {a : Expr} {ta : TA} {p pos : Pos} {k : Nat} (T : Mkr X.prog X.w X.K C fld) (gC : X.mg cn = some (.ref C)) (kC : keepIn X.K (.ref C) = true) (r : Raises X (.ref C)) (hr : Room k X.A) (ha : PA X [a] ta) (hg : Gl X cn)
    (hdb : (cn == ("__debug__" : Str)) = false := by decide) (he : starEach (a :: []) X.env = (false, eval a X.env) :: starEach [] X.env := by rfl) (hpl : (backTo pos (starEach [] X.env)).any (·.1) = false := by rfl) :
    PMk X (.Call (.Name cn p) [a] [] pos) (tMk1 C fld ta) := by
  intro pins s σ H Q I h
  refine wpAny_Call_Name_kw (ld_glob I hg gC ?_ hdb)
  refine PySem.W.callWith_K (h₀ := X.base) I.ok.mod.kin kC (thn (ha.run pos pins s σ H _ I h) fun us s1 hh => ?_) he hpl
  obtain ⟨vs, H1, I1, r1, v, ev, q1⟩ := hh
  subst ev
  refine ⟨I1.kIn, ?_⟩
  cases r1 with
  | cons rv rn =>
    rename_i v' us'
    cases rn
    show wpAny _ _ (call (.ref C) [v']) _ _ _
    have hlim := I1.nolimit
    obtain ⟨hp, g, dr, tk, os⟩ := s1
    refine wpAny_call (T.made _ _ _ v' I1.kIn hlim (by have := hr.dp; omega) fun h' tk' e d M => ?_)
    show MkP X pins σ Q (.ref e) ⟨h', g, dr, tk', os⟩
    obtain ⟨oe, fv, hoe, hc, hd, hdat, h1⟩ := M.obj
    have hns := M.ns
    obtain ⟨G', g1, g2⟩ := restrict h' fun b => decide (b ≠ e)
    have gk : ∀ b, b ≠ e → G'.get? b = h'.get? b := fun b hb => g1 b (decide_eq_true hb)
    have ge : G'.get? e = none := g2 e (by simp)
    have old : ∀ b o, hp.get? b = some o → G'.get? b = some o := fun b o q => (gk b (Nat.ne_of_lt (Nat.lt_of_lt_of_le (Heap.lt_size q) M.new))).trans (M.keep b o q)
    have ob : ObjOk X.prog X.w (upd H1 d (.xd [(fld, v)])) G' d (.xd [(fld, v)]) :=
      ⟨_, hns.at (fun o q => (gk d M.ne).trans q), fun f => relO_one rv f⟩
    have J : Inv X pins σ (upd H1 d (.xd [(fld, v)])) ⟨G', g, dr, tk', os⟩ := I1.laid (t' := tk') old M.big ob
    refine ⟨e, oe, fv, ⟨G', g, dr, tk', os⟩, _, .ref C, some d, rfl, J, fun b o q => ?_, ge, hoe, ⟨hc, hd⟩, hdat, h1, ?_, rfl, I1.bare, r, q1 d (I1.hok.fresh M.big)⟩
    · by_cases hb : b = e
      · have q' : G'.get? b = some o := q
        rw [hb, ge] at q'; cases q'
      · exact (gk b hb).symm.trans q
    · rw [upd_ne (Ne.symm M.ne)]
      exact I1.hok.fresh M.new
/-- X(), a class without its own __init__ -/
theorem pmk_bare {x : Str} {bmB : List Value} {B newId initId : String} {p pos : Pos} (F : ExcBaseFacts B newId initId bmB) (q : excIn X.K C bmB newId = true) (gC : X.mg x = some (.ref C)) (kC : keepIn X.K (.ref C) = true) (r : Raises X (.ref C)) (hg : Gl X x)
    (hdb : (x == ("__debug__" : Str)) = false := by decide) : PMk X (.Call (.Name x p) [] [] pos) (fun _ H Q => Q (.ref C) none H) := by
  intro pins s σ H Q I h
  refine wpAny_Call_Name_kw (ld_glob I hg gC ?_ hdb)
  refine PySem.W.callWith_K0 I.kIn kC ?_
  show wpAny _ _ (call (.ref C) []) _ _ _
  obtain ⟨bm, N, nm, qn, bs, hdct, sn, sub, ab, col, dd, k0, k1, k2, k3, k5, mN, hC, hN, hni, T⟩ := exc_obj I.kIn q
  refine wpAny_call_exc_subT F T hC hN hni (fun h' e hm => ?_) (by show 0 ≤ sizeLine; exact Nat.zero_le _)
  exact mk_of I hm r h (I.hok.gone hm.new)
end
end Rh

set_option Elab.async false
set_option linter.all false
set_option maxRecDepth 100000
set_option maxHeartbeats 2000000
set_option autoImplicit false
namespace Rh
open PySem PySem.Spec PyProof.Rows L2
variable [Tbs]
/-! ### try: except clauses, with or without a name -/
/-- a clause: the class's value, the name's slot, the suite's reading -/
abbrev Cl := Value × Option Nat × (Addr → Value → Option Addr → TS)
def wOne (K : PySem.W.Frag) (D : Ends) (c : Cl) (rest : WX) : WX := fun cls d σ H => ∃ b, PySem.W.exmOne K cls c.1 = some b ∧
  (b = true → ∀ a, H a = none → match c.2.1 with
    | none => c.2.2 a cls d D σ H
    | some i => c.2.2 a cls d { nx := fun σ' H' => D.nx (σ'.set i none) H', rt := D.rt, bk := fun σ' H' => D.bk (σ'.set i none) H', ct := fun σ' H' => D.ct (σ'.set i none) H' } (σ.set i (some (.ref a))) H) ∧
  (b = false → rest cls d σ H)
def wCl (K : PySem.W.Frag) (Wout : WX) (D : Ends) : List Cl → WX
  | [] => Wout
  | c :: r => wOne K D c (wCl K Wout D r)
inductive ClsOk (X : Cx) : List ExceptHandler → List Cl → Prop
  | nil : ClsOk X [] []
  | bare {x : Str} {c : Value} {ts : Addr → Value → Option Addr → TS} {b₀ : Stmt} {suite : List Stmt} {np pos' : Pos} {hds : List ExceptHandler} {l : List Cl} (hc : Names X x c)
      (hsu : ∀ (a : Addr) (oe : Obj) (cls : Value) (d : Option Addr) (pn : List (Addr × Obj)), Zc cls d oe → (∃ vs, oe.data = .fields vs) → PSs (X.suite a ((a, oe) :: pn)) (b₀ :: suite) (ts a cls d)) (r : ClsOk X hds l) :
      ClsOk X (.ExceptHandler (some (.Name x np)) none (b₀ :: suite) pos' :: hds) ((c, none, ts) :: l)
  | named {x n : Str} {i : Nat} {c : Value} {ts : Addr → Value → Option Addr → TS} {b₀ : Stmt} {suite : List Stmt} {np pos' : Pos} {hds : List ExceptHandler} {l : List Cl} (hc : Names X x c) (hi : X.N[i]? = some n) (hln : X.env.kindOf n = some .local)
      (hsu : ∀ (a : Addr) (oe : Obj) (cls : Value) (d : Option Addr) (pn : List (Addr × Obj)), Zc cls d oe → (∃ vs, oe.data = .fields vs) → PSs (X.suite a ((a, oe) :: pn)) (b₀ :: suite) (ts a cls d)) (r : ClsOk X hds l) :
      ClsOk X (.ExceptHandler (some (.Name x np)) (some n) (b₀ :: suite) pos' :: hds) ((c, some i, ts) :: l)
section
variable {X : Cx} {body : List Stmt} {h₀ : ExceptHandler} {hds : List ExceptHandler} {l : List Cl} {pos : Pos} {tb : WX → TS} {Wout : WX}
theorem ps_tries (hs : X.stack = X.env :: X.outer) (hf : X.env.frame = some X.env.locals) (hN : X.N.Nodup) (tk : Takes X Wout)
    (hb : ∀ (W : WX) (pn : List (Addr × Obj)) (xe : Value → Shared → Prop), Takes (X.tr pn xe) W → PassesOwn (model X.prog X.w) X.A X.env xe → PSs (X.tr pn xe) body (tb W))
    (hh : ClsOk X (h₀ :: hds) l) : PS X (.Try body (h₀ :: hds) [] [] pos) (fun D σ H => tb (wCl X.K Wout D l) D σ H) := by
  refine ⟨fun pins s σ H D I h => ?_⟩
  have ok := I.ok
  have hfr : X.A.frames = some (X.env :: X.outer) := by rw [ok.frames, hs]
  refine wpAny_Try_except ?_
  refine wpAny_mono ((hb (wCl X.K Wout D l) (X.pn ++ pins) (fun e s₁ => wpAny (model X.prog X.w) X.A (noteFrame e X.env) (fun _ s₂ => wpAny (model X.prog X.w) X.A (setFlight e none) (fun _ s₃ =>
    wpAny (model X.prog X.w) X.A (handleBy e X.env (h₀ :: hds)) (SP X pins D) X.xe s₃) X.xe s₂) X.xe s₁) (fun u s' xx => ?_) PassesOwn.looking).run [] s σ H D (I.toTry _) h) (fun f s1 hsp => ?_) (fun e s1 he => he)
  · obtain ⟨a, B, sI, pins', σ', H', cls, d, rfl, J', nb, up, sky, na, os, ag, w⟩ := xx
    have J : Inv X pins σ' H' sI := J'.ofTry ok
    have sky' : Sky B (X.env :: X.outer) a (Zc cls d) X.env.locals s'.heap := by rw [← hs]; exact sky
    show wpAny (model X.prog X.w) X.A (noteFrame (.ref a) X.env) _ _ _
    refine Sky.land Zc.steady hfr hf sky' fun h3 fl3 up3 => ?_
    have J3 : Inv X pins σ' H' { s' with heap := h3 } := J.landed nb fl3.1 (up.trans up3) os ag
    obtain ⟨oe3, vs3, he3, hz3, hd3⟩ := fl3.there
    have notFr : ∀ {h : Heap} {o : Obj} {vs : Array Value}, h.FunFrames B (X.env :: X.outer) → h.get? a = some o → o.data = .fields vs → a ∉ frs (X.env :: X.outer) := fun {h o vs} ff e dd hm => by
      obtain ⟨_, o', e', hnf⟩ := ff.mem hm
      rw [e] at e'; cases e'
      exact hnf _ dd
    have nfr := notFr fl3.2.2.1 he3 hd3
    have nL : a ≠ X.env.locals := fun z => nfr (List.mem_filterMap.mpr ⟨X.env, List.mem_cons_self, by rw [hf, z]⟩)
    have nF : a ∉ X.fs := fun hm => by
      obtain ⟨e, he, q⟩ := List.mem_filterMap.mp hm
      exact nfr (List.mem_filterMap.mpr ⟨e, List.mem_cons_of_mem _ he, q⟩)
    have S3 := J3.suite he3 hd3 na nL nF
    have LT : PySem.W.Looks (model X.prog X.w) h3 (typeOf (.ref a)) cls := fun A Q E s k q => wpAny_typeOf_ref (k _ _ he3) (by rw [hz3.1]; exact q)
    have test : ∀ {x : Str} {np : Pos} {c : Value} {Q : Value → Shared → Prop} {E : Value → Shared → Prop}, Names X x c → Q c { s' with heap := h3 } → wpAny (model X.prog X.w) (X.A.mark (some (.ref a))) (eval (.Name x np) X.env) Q E { s' with heap := h3 } := fun {x np c Q E} hc q => by
      obtain ⟨hg, hdbg, hm | ⟨hm, hv, hnn⟩⟩ := hc
      · exact ld_glob (X := X.suite a ((a, oe3) :: (X.pn ++ pins))) S3 hg hm q hdbg
      · exact ld_blt (X := X.suite a ((a, oe3) :: (X.pn ++ pins))) S3 hg hm hv q hnn hdbg
    have go : ∀ {hds' : List ExceptHandler} {l' : List Cl}, ClsOk X hds' l' → wCl X.K Wout D l' cls d σ' H' →
        wpAny (model X.prog X.w) X.A (handleBy (.ref a) X.env hds') (SP X pins D) X.xe { s' with heap := h3 } := by
      intro hds' l' hk
      induction hk with
      | nil =>
        intro w
        refine wpAny_handleBy_nil ?_
        obtain ⟨k1, k2, k3, oe, vs, T, oT, ts', he, hz, hd, h1, hr⟩ := id fl3
        unfold PySem.passOn
        refine wpAny_bind (wpAny_field he hd h1 ?_)
        rw [if_neg (show ¬ ((Value.ref T == Value.none) = true) from by simp)]
        have fin : wpAny (model X.prog X.w) X.A (setFlight (.ref a) X.env.frame) (fun _ s4 => wpAny (model X.prog X.w) X.A (throw (.ref a) : Sem Flow) (SP X pins D) X.xe s4) X.xe { s' with heap := h3 } := by
          rw [hf]
          refine HandSPX.setFlight_upZ fl3 fun h4 hh4 up4 => wpAny_throw (tk _ _ ?_)
          exact ⟨a, B, sI, pins, σ', H', cls, d, rfl, J, nb, (up.trans up3).trans up4, .inr (.inr (by rw [hs]; exact hh4)), na, os, ag, w⟩
        first
          | exact wpAny_bind (wpAny_pure (wpAny_bind fin))
          | exact wpAny_bind fin
      | @bare x c ts b₀ suite np pos' hds2 l2 hc hsu r ih =>
        intro w
        obtain ⟨b, hb1, hyes, hno⟩ := w
        refine wpAny_handleBy_cons (codeAny_handlers_test ?_) (by intro q; cases q)
        have LM := PySem.W.exm_one (M := model X.prog X.w) (J3.kIn) LT hb1
        refine test hc (LM.here ?_)
        cases b with
        | true =>
          refine codeAny_handlers_suite ?_
          refine HandSPX.lands_againZ fl3 fun h4 fl4 up4 => ?_
          have J4 : Inv X pins σ' H' { s' with heap := h4 } := J.landed nb fl4.1 ((up.trans up3).trans up4) os ag
          obtain ⟨oe4, vs4, he4, hz4, hd4⟩ := fl4.there
          have S4 := J4.suite he4 hd4 na nL nF
          refine wpAny_mono ((hsu a oe4 cls d (X.pn ++ pins) hz4 ⟨_, hd4⟩).run [] _ _ H' _ S4 (hyes rfl a na)) (fun f s6 hsp => ?_) (fun _ _ z => False.elim z)
          cases f with
          | next =>
            obtain ⟨σ6, H6, S6, q6⟩ := hsp
            exact ⟨_, _, S6.unsuite ok, q6⟩
          | brk =>
            obtain ⟨σ6, H6, S6, q6⟩ := hsp
            exact ⟨_, _, S6.unsuite ok, q6⟩
          | cont =>
            obtain ⟨σ6, H6, S6, q6⟩ := hsp
            exact ⟨_, _, S6.unsuite ok, q6⟩
          | ret u =>
            obtain ⟨v6, σ6, H6, S6, r6, q6⟩ := hsp
            exact ⟨_, _, _, S6.unsuite ok, r6, q6⟩
        | false =>
          show wpAny _ X.A (handleBy (.ref a) X.env hds2) _ _ _
          exact ih (hno rfl)
      | @named x n i c ts b₀ suite np pos' hds2 l2 hc hi hln hsu r ih =>
        intro w
        obtain ⟨b, hb1, hyes, hno⟩ := w
        refine wpAny_handleBy_cons (codeAny_handlers_test ?_) (by intro q; cases q)
        have LM := PySem.W.exm_one (M := model X.prog X.w) (J3.kIn) LT hb1
        refine test hc (LM.here ?_)
        cases b with
        | true =>
          have hloc : Loc X.env.scope n := .inl hln
          refine codeAny_handlers_suite_as ?_
          refine HandSPX.lands_againZ fl3 fun h4 fl4 up4 => ?_
          have J4 : Inv X pins σ' H' { s' with heap := h4 } := J.landed nb fl4.1 ((up.trans up3).trans up4) os ag
          obtain ⟨oe4, vs4, he4, hz4, hd4⟩ := fl4.there
          have S4 := J4.suite he4 hd4 na nL nF
          refine store_ok (X := X.suite a ((a, oe4) :: (X.pn ++ pins))) (v := .ref a) S4 hN hi hloc rfl (fun s5 S5 => ?_) (.inr hln)
          refine wpAny_mono ((hsu a oe4 cls d (X.pn ++ pins) hz4 ⟨_, hd4⟩).run [] s5 _ H' _ S5 (hyes rfl a na)) (fun f s6 hsp => ?_) (fun _ _ z => False.elim z)
          have end_ : ∀ {σ6 : L2.St} {H6 : Hp} {Q : Shared → Prop}, Inv (X.suite a ((a, oe4) :: (X.pn ++ pins))) [] σ6 H6 s6 → (∀ s7, Inv X pins (σ6.set i none) H6 s7 → Q s7) →
              wpAny (model X.prog X.w) X.A (do bindName X.env n .none; unbindBehindTheSuite X.env n pos') (fun _ s7 => Q s7) X.xe s6 := fun {σ6 H6 Q} S6 hq => gone_ok (S6.unsuite ok) hN hi hln hq
          cases f with
          | next =>
            obtain ⟨σ6, H6, S6, q6⟩ := hsp
            exact end_ S6 fun s7 J7 => ⟨_, _, J7, q6⟩
          | brk =>
            obtain ⟨σ6, H6, S6, q6⟩ := hsp
            exact end_ S6 fun s7 J7 => ⟨_, _, J7, q6⟩
          | cont =>
            obtain ⟨σ6, H6, S6, q6⟩ := hsp
            exact end_ S6 fun s7 J7 => ⟨_, _, J7, q6⟩
          | ret u =>
            obtain ⟨v6, σ6, H6, S6, r6, q6⟩ := hsp
            exact end_ S6 fun s7 J7 => ⟨_, _, _, J7, r6, q6⟩
        | false =>
          show wpAny _ X.A (handleBy (.ref a) X.env hds2) _ _ _
          exact ih (hno rfl)
    exact go hh w
  · cases f with
    | next =>
      obtain ⟨σ', H', J', q⟩ := hsp
      exact wpAny_execs_nil ⟨σ', H', J'.ofTry ok, q⟩
    | brk =>
      obtain ⟨σ', H', J', q⟩ := hsp
      exact ⟨σ', H', J'.ofTry ok, q⟩
    | cont =>
      obtain ⟨σ', H', J', q⟩ := hsp
      exact ⟨σ', H', J'.ofTry ok, q⟩
    | ret u =>
      obtain ⟨v, σ', H', J', r, q⟩ := hsp
      exact ⟨v, σ', H', J'.ofTry ok, r, q⟩
end
end Rh

set_option Elab.async false
set_option linter.all false
set_option maxRecDepth 100000
set_option maxHeartbeats 2000000
set_option autoImplicit false
namespace Rh
open PySem PySem.Spec PyProof.Rows L2
variable [Tbs]
open PySem.W PySem.Calls PySem.HandSPX
section
variable {X : Cx} {W : WX} {C : Addr} {fld : Str}
def mRaise0 (c : Str) : MS := fun ρ h => some (.ex c [] ρ h)
theorem s_raise0 {x : Str} {bmB : List Value} {B newId initId : String} {p pos pos2 : Pos} (hc : X.calm = true) (tk : Takes X W) (F : ExcBaseFacts B newId initId bmB) (q : excIn X.K C bmB newId = true) (gC : X.mg x = some (.ref C)) (kC : keepIn X.K (.ref C) = true) (r : Raises X (.ref C)) (hg : Gl X x)
    (hdb : (x == ("__debug__" : Str)) = false := by decide) : PS X (.Raise (some (.Call (.Name x p) [] [] pos)) none pos2) (rdS X W (mRaise0 x)) :=
  ps_imp (ps_raise hc tk (pmk_bare F q gC kC r hg hdb)) fun D σ H ⟨ρ, L, μ, h, rel, k⟩ => k (.ref C) none σ μ H .refl rel ⟨⟨C, gC, rfl⟩, rfl⟩
def mRaise1 (c fld : Str) (m : M D) : MS := mDo m fun d => fun ρ h => some (.ex c [(fld, d)] ρ h)
theorem s_raise1 {cn : Str} {a : Expr} {m : M D} {p pos pos2 : Pos} {k : Nat} (hc : X.calm = true) (tk : Takes X W) (T : Mkr X.prog X.w X.K C fld) (gC : X.mg cn = some (.ref C)) (kC : keepIn X.K (.ref C) = true) (r : Raises X (.ref C)) (hr : Room k X.A) (ha : PE X a (rd X W m)) (hg : Gl X cn)
    (hdb : (cn == ("__debug__" : Str)) = false := by decide) (he : starEach (a :: []) X.env = (false, eval a X.env) :: starEach [] X.env := by rfl) (hpl : (backTo pos (starEach [] X.env)).any (·.1) = false := by rfl) :
    PS X (.Raise (some (.Call (.Name cn p) [a] [] pos)) none pos2) (rdS X W (mRaise1 cn fld m)) := by
  refine ps_imp (ps_raise hc tk (pmk_one T gC kC r hr (pa_cons ha pa_nil he) hg hdb he hpl)) fun D σ H q => rdG_imp (rdS_bind q) fun ρ L d h1 μ1 H1 ⟨rel1, q1⟩ x rx => ?_
  show ∃ v, [x] = [v] ∧ ∀ d, H1 d = none → W (.ref C) (some d) σ (upd H1 d (.xd [(fld, v)]))
  refine ⟨x, rfl, fun dx hdx => ?_⟩
  obtain ⟨s1, s2⟩ := same_new (o := HO.xd [(fld, x)]) hdx
  exact q1 (.ref C) (some dx) σ μ1 _ (.same rel1.hr s1 s2) (rel1.go (.same rel1.hr s1 s2) (rel1.hr.same s1)) ⟨⟨C, gC, rfl⟩, dx, [(fld, x)], rfl, upd_same, rfl, x, [], rfl, rx.stay (Same.stay s1), rfl⟩
end
/-- a clause by mirror: the class's name, the slot of the error's name, the suite by what the error holds -/
structure MC where
  c : Str
  i : Option Nat
  su : Str → List (Str × D) → MS
def noEx : Option RS → Option RS
  | some (.ex _ _ _ _) => none
  | o => o
def clrS (i : Nat) : Option RS → Option RS
  | some (.nx ρ h) => some (.nx (ρ.set i none) h)
  | some (.bk ρ h) => some (.bk (ρ.set i none) h)
  | some (.ct ρ h) => some (.ct (ρ.set i none) h)
  | some (.rt d h) => some (.rt d h)
  | _ => none
def runCl (k : MC) (c : Str) (fs : List (Str × D)) (ρ : En) (h : Hs) : Option RS := match k.i with
  | none => noEx (k.su c fs ρ h)
  | some i => if i < ρ.length then clrS i (k.su c fs (ρ.set i none) h) else none
def pick (cs : List Str) : List MC → Str → List (Str × D) → En → Hs → Option RS
  | [], c, fs, ρ, h => some (.ex c fs ρ h)
  | k :: r, c, fs, ρ, h => if cs.contains c = true ∧ cs.contains k.c = true then (if (c == k.c) = true then runCl k c fs ρ h else pick cs r c fs ρ h) else none
def mTry (cs : List Str) (body : MS) (l : List MC) : MS := fun ρ h => match body ρ h with
  | some (.ex c fs ρ1 h1) => pick cs l c fs ρ1 h1
  | o => o
/-- the classes of the text: which is caught by which -/
def ExK (K : PySem.W.Frag) (mg : Str → Option Value) (cs : List Str) : Prop := ∀ c ∈ cs, ∀ k ∈ cs, ∀ C, mg c = some (.ref C) → PySem.W.exmOne K (.ref C) ((mg k).getD .none) = some (c == k)
abbrev WN : WX := fun _ _ _ _ => False
def tsX (X : Cx) (i : Option Nat) (su : Str → List (Str × D) → MS) : Addr → Value → Option Addr → TS := fun a cls d D σ H =>
  (∀ j, i = some j → σ[j]? = some (some (.ref a))) ∧ ∃ ρ L μ h c fs, Rel (ctX X) L ρ σ μ H h ∧ RepX (ctX X) μ H c fs cls d ∧ SatS X WN D L μ H (su c fs ρ h)
def clOf (X : Cx) (k : MC) : Cl := ((X.mg k.c).getD .none, k.i, tsX X k.i k.su)
section
variable {X : Cx} {W : WX} {L : List Nat} {ρ ρ' : En} {σ σ' σ1 : L2.St} {H H' H1 : Hp} {μ μ1 : Mu} {h h1 : Hs} {D0 : Ends}
theorem SatS.noEx {o : Option RS} {W' : WX} (q : SatS X W D0 L μ H (noEx o)) : SatS X W' D0 L μ H o := by
  cases o with
  | none => exact q.none
  | some o =>
    cases o with
    | ex c fs ρ1 => exact q.none
    | _ => exact q
/-- a slot is no longer looked at -/
theorem Rel.clear {C : Ct} (r : Rel C L ρ σ μ H h) (i : Nat) (x : Option V) : Rel C L (ρ.set i none) (σ.set i x) μ H h := by
  refine ⟨by rw [List.length_set, List.length_set]; exact r.len, fun j d e => ?_, r.hr⟩
  by_cases hj : i = j
  · subst hj
    by_cases hl : i < ρ.length
    · rw [List.getElem?_set_self hl] at e; cases e
    · rw [List.getElem?_eq_none (by rw [List.length_set]; exact Nat.le_of_not_lt hl)] at e; cases e
  · rw [List.getElem?_set_ne hj] at e ⊢
    exact r.val j d e
theorem pick_ok {cs : List Str} (hk : ExK X.K X.mg cs) : ∀ (l : List MC) {c : Str} {fs : List (Str × D)} {ρ1 : En} {h1 : Hs}, SatS X W D0 L μ H (pick cs l c fs ρ1 h1) →
    ∀ cls d σ1 μ1 H1, Go L μ H μ1 H1 → Rel (ctX X) L ρ1 σ1 μ1 H1 h1 → RepX (ctX X) μ1 H1 c fs cls d → wCl X.K W D0 (l.map (clOf X)) cls d σ1 H1
  | [], c, fs, ρ1, h1, q => fun cls d σ1 μ1 H1 g r rx => q cls d σ1 μ1 H1 g r rx
  | k :: ks, c, fs, ρ1, h1, q => fun cls d σ1 μ1 H1 g r rx => by
    unfold pick at q
    split at q
    · rename_i hcs
      obtain ⟨⟨C, gC, rfl⟩, rx2⟩ := id rx
      have hb := hk c (List.elem_iff.mp hcs.1) k.c (List.elem_iff.mp hcs.2) C gC
      refine ⟨(c == k.c), hb, fun e a na => ?_, fun e => ?_⟩
      · rw [e] at q
        rw [if_pos rfl] at q
        show (match k.i with
          | none => tsX X k.i k.su a (.ref C) d D0 σ1 H1
          | some i => tsX X k.i k.su a (.ref C) d { nx := fun σ' H' => D0.nx (σ'.set i none) H', rt := D0.rt, bk := fun σ' H' => D0.bk (σ'.set i none) H', ct := fun σ' H' => D0.ct (σ'.set i none) H' } (σ1.set i (some (.ref a))) H1)
        unfold runCl at q
        cases hi : k.i with
        | none =>
          rw [hi] at q
          dsimp only at q ⊢
          exact ⟨(fun j e => nomatch e), ρ1, L, μ1, h1, c, fs, r, rx, (q.start g).noEx⟩
        | some i =>
          rw [hi] at q
          dsimp only at q ⊢
          split at q
          · rename_i hl
            have hlen : i < σ1.length := by rw [← r.len]; exact hl
            refine ⟨fun j e => by cases e; exact List.getElem?_set_self hlen, ρ1.set i none, L, μ1, h1, c, fs, r.clear i _, rx, ?_⟩
            cases eo : k.su c fs (ρ1.set i none) h1 with
            | none => rw [eo] at q; exact q.none
            | some o =>
              rw [eo] at q
              cases o with
              | nx ρ2 h2 => exact fun σ2 μ2 H2 g2 r2 => q _ μ2 H2 (g.trans g2) (r2.clear i none)
              | bk ρ2 h2 => exact fun σ2 μ2 H2 g2 r2 => q _ μ2 H2 (g.trans g2) (r2.clear i none)
              | ct ρ2 h2 => exact fun σ2 μ2 H2 g2 r2 => q _ μ2 H2 (g.trans g2) (r2.clear i none)
              | rt n h2 => exact fun μ2 H2 x g2 r2 rr => q μ2 H2 x (g.trans g2) r2 rr
              | ex c' fs' ρ2 h2 => exact q.none
          · exact q.none
      · rw [e, if_neg Bool.false_ne_true] at q
        exact pick_ok hk ks q _ _ _ _ _ g r rx
    · exact q.none
/-- try .. except .. by mirror -/
theorem s_try {cs : List Str} {body : List Stmt} {h₀ : ExceptHandler} {hds : List ExceptHandler} {l : List MC} {mb : MS} {pos : Pos} (hk : ExK X.K X.mg cs) (hs : X.stack = X.env :: X.outer) (hf : X.env.frame = some X.env.locals) (hN : X.N.Nodup) (tk : Takes X W)
    (hb : ∀ (W : WX) (pn : List (Addr × Obj)) (xe : Value → Shared → Prop), Takes (X.tr pn xe) W → PassesOwn (model X.prog X.w) X.A X.env xe → PSs (X.tr pn xe) body (rdS (X.tr pn xe) W mb))
    (hh : ClsOk X (h₀ :: hds) (l.map (clOf X))) : PS X (.Try body (h₀ :: hds) [] [] pos) (rdS X W (mTry cs mb l)) := by
  refine ps_imp (ps_tries (tb := fun W => rdS X W mb) hs hf hN tk hb hh) fun D σ H ⟨ρ, L, μ, h, rel, q⟩ => ⟨ρ, L, μ, h, rel, ?_⟩
  unfold mTry at q
  cases eo : mb ρ h with
  | none => rw [eo] at q; exact q.none
  | some o =>
    rw [eo] at q
    cases o with
    | ex c fs ρ1 h1 => exact fun cls d σ1 μ1 H1 g r rx => pick_ok hk l q cls d σ1 μ1 H1 g r rx
    | _ => exact q
end
end Rh

set_option Elab.async false
set_option linter.all false
set_option maxRecDepth 100000
set_option maxHeartbeats 2000000
set_option autoImplicit false
namespace Rh
open PySem PySem.Spec PyProof.Rows L2
variable [Tbs]

/-! ### the suite's words: by what the error holds -/
abbrev XF (α : Type) := Str → List (Str × D) → Option α
def rdX (X : Cx) (i : Option Nat) (a : Addr) (cls : Value) (d : Option Addr) (f : XF D) : TE := fun σ H Q =>
  (∀ j, i = some j → σ[j]? = some (some (.ref a))) ∧ ∃ μ c fs dv, RepX (ctX X) μ H c fs cls d ∧ f c fs = some dv ∧ ∀ v, RepV (ctX X) μ H dv v → Q v H
def rdXA (X : Cx) (i : Option Nat) (a : Addr) (cls : Value) (d : Option Addr) (f : XF (List D)) : TA := fun σ H Q =>
  (∀ j, i = some j → σ[j]? = some (some (.ref a))) ∧ ∃ μ c fs dv, RepX (ctX X) μ H c fs cls d ∧ f c fs = some dv ∧ ∀ v, RepL (ctX X) μ H dv v → Q v H
def xC (d : D) : XF D := fun _ _ => some d
def xNil : XF (List D) := fun _ _ => some []
def xCons (f : XF D) (g : XF (List D)) : XF (List D) := fun c fs => match f c fs, g c fs with
  | some d, some ds => some (d :: ds)
  | _, _ => none
/-- error.fld, of the class cn -/
def xAt (cn fld : Str) : XF D := fun c fs => match fs with
  | [(g, d)] => if c = cn ∧ g = fld then some d else none
  | _ => none
structure AttrX (K : PySem.W.Frag) (C : Addr) (fld : Str) : Prop where
  ga : PySem.W.findIn K (.ref C) "__getattribute__" = some (some (.builtin "BaseException.__getattribute__"))
  gg : PySem.W.findIn K (.ref C) "__getattr__" = some none
  ex : PySem.W.subIn K (.ref C) (.type "BaseException") = some true
  hd : PySem.W.hasDictIn K C = true
  no : PySem.W.findIn K (.ref C) fld = some none
/-- isinstance(error, T), of the class cn -/
def xIsi (cn : Str) (b : Bool) : XF D := fun c _ => if c = cn then some (.bl b) else none
section
variable {X : Cx} {Y : Cx} {a : Addr} {cls : Value} {d : Option Addr} {i : Option Nat}
theorem x_str {x : Str} {j : Nat} {pos : Pos} : PE Y (.Constant (.str x) j pos) (rdX X i a cls d (xC (.str x))) := pe_imp pe_str fun σ H Q ⟨_, μ, c, fs, dv, _, e, k⟩ => k (.str x) (by cases e; rfl)
theorem xa_nil : PA Y [] (rdXA X i a cls d xNil) := pa_imp pa_nil fun σ H Q ⟨_, μ, c, fs, dv, _, e, k⟩ => k [] (by cases e; rfl)
theorem xa_cons {e : Expr} {es : List Expr} {f : XF D} {g : XF (List D)} (he : PE Y e (rdX X i a cls d f)) (hr : PA Y es (rdXA X i a cls d g)) (hs : starEach (e :: es) Y.env = (false, eval e Y.env) :: starEach es Y.env := by rfl) :
    PA Y (e :: es) (rdXA X i a cls d (xCons f g)) := pa_imp (pa_cons he hr hs) fun σ H Q ⟨hj, μ, c, fs, dv, rx, e, k⟩ => by
  unfold xCons at e
  cases e1 : f c fs with
  | none => simp only [e1] at e; cases e
  | some d1 =>
    cases e2 : g c fs with
    | none => simp only [e1, e2] at e; cases e
    | some ds =>
      simp only [e1, e2] at e
      cases e
      exact ⟨hj, μ, c, fs, d1, rx, e1, fun v rv => ⟨hj, μ, c, fs, ds, rx, e2, fun vs rvs => k (v :: vs) ⟨v, vs, rfl, rv, rvs⟩⟩⟩
/-- the raised object, as the suite has it -/
theorem inst_at {C : Addr} {fs : List (Str × D)} {c cn : Str} {μ : Mu} {H : Hp} {σ : L2.St} {s : Shared} {oe : Obj} {pn pins : List (Addr × Obj)} (gC : X.mg cn = some (.ref C)) (I : L2.Inv (X.suite a ((a, oe) :: pn)) pins σ H s) (rx : RepX (ctX X) μ H c fs cls d) (hc : c = cn) (hz : Zc cls d oe) (hf : ∃ vs, oe.data = .fields vs) :
    cls = .ref C ∧ ∃ od, PySem.W.InstAt s.heap a oe C od := by
  subst hc
  obtain ⟨⟨C', gC', rfl⟩, rx⟩ := rx
  have gC' : X.mg c = some (.ref C') := gC'
  rw [gC] at gC'
  cases gC'
  refine ⟨rfl, ?_⟩
  obtain ⟨ha, _⟩ := I.pin (a, oe) (List.mem_append_left _ List.mem_cons_self)
  obtain ⟨fv, hd⟩ := hf
  cases fs with
  | nil =>
    have rx : d = none := rx
    subst rx
    exact ⟨none, ha, hz.1, by unfold PySem.W.notCls; rw [hd] <;> rfl, by rw [hz.2] <;> trivial⟩
  | cons f fs =>
    obtain ⟨dx, vs, rfl, hdx, _⟩ := rx
    have hx : ObjOk X.prog X.w H s.heap dx (.xd vs) := I.hok dx _ hdx
    obtain ⟨mA, hns, hr⟩ := hx
    obtain ⟨od, ho, hl⟩ := lookIn_ns hns
    exact ⟨some od, ha, hz.1, by unfold PySem.W.notCls; rw [hd] <;> rfl, by rw [hz.2]; exact ho⟩
theorem x_attr {C : Addr} {n fld cn : Str} {j : Nat} {oe : Obj} {pn : List (Addr × Obj)} {p pos : Pos} (gC : X.mg cn = some (.ref C)) (T : AttrX X.K C fld) (hN : X.N[j]? = some n) (hv : Vis X.env.scope n) (hz : Zc cls d oe) (hf : ∃ vs, oe.data = .fields vs)
    (hd : (n == ("__debug__" : Str)) = false := by decide) (hcd : (n == ("__classdict__" : Str)) = false := by decide) (hb : attributeBase (.Name n p) fld X.env (eval (.Name n p) X.env) = eval (.Name n p) X.env := by rfl) :
    PE (X.suite a ((a, oe) :: pn)) (.Attribute (.Name n p) fld pos) (rdX X (some j) a cls d (xAt cn fld)) := by
  refine ⟨fun pins s σ H Q I ⟨hj, μ, c, fs, dv, rx, e, k⟩ => ?_⟩
  refine attr_of hb (thn ((pe_var (X := X.suite a ((a, oe) :: pn)) hN hv hd hcd).run pins s σ H (fun v H1 => v = .ref a ∧ H1 = H) I ⟨_, hj j rfl, rfl, rfl⟩) fun u s1 hh => ?_)
  obtain ⟨x, H1, I1, r1, ex, eH⟩ := hh
  subst ex
  subst eH
  obtain rfl : u = Value.ref a := r1
  unfold xAt at e
  split at e
  · rename_i g d0 
    split at e
    · rename_i hc
      obtain ⟨rfl, rfl⟩ := hc
      cases e
      obtain ⟨⟨C', gC', rfl⟩, dx, vs, rfl, hdx, hn, rl⟩ := rx
      have gC' : X.mg c = some (.ref C') := gC'
      rw [gC] at gC'
      cases gC'
      obtain ⟨v, rest, ev, rv, er⟩ := rl
      cases vs with
      | nil => cases ev
      | cons p0 vs =>
        cases er
        obtain ⟨g0, v0⟩ := p0
        have e1 := List.cons.inj ev
        obtain ⟨e1, e2⟩ := e1
        dsimp only at e1
        subst e1
        cases vs with
        | cons _ _ => cases e2
        | nil =>
          have e3 : g0 = g := (List.cons.inj hn).1
          subst e3
          obtain ⟨ha, _⟩ := I1.pin (a, oe) (List.mem_append_left _ List.mem_cons_self)
          obtain ⟨fv, hd⟩ := hf
          have hx : ObjOk X.prog X.w H1 s1.heap dx (.xd [(g0, v0)]) := I1.hok dx _ hdx
          obtain ⟨mA, hns, hr⟩ := hx
          obtain ⟨od, ho, hl⟩ := lookIn_ns hns
          have l : List.lookup g0 [(g0, v0)] = some v0 := by simp [List.lookup]
          obtain ⟨u, hu, ru⟩ := RelO.some_of (v := v0) (o := mA g0) (by rw [← l]; exact hr g0)
          have J : PySem.W.InstAt s1.heap a oe C (some od) := ⟨ha, hz.1, by unfold PySem.W.notCls; rw [hd] <;> rfl, by rw [hz.2]; exact ho⟩
          exact HandSPX.exc_get I1.kIn J T.ga T.gg T.ex (PySem.W.findObj_own T.hd T.no rfl (by rw [hl, hu])) (handed_of ru) ⟨v0, H1, I1.tok _, ru, k v0 rv⟩
    · cases e
  · cases e
/-- isinstance(error, T) with the value of T -/
theorem call_isX {C : Addr} {oe : Obj} {pn : List (Addr × Obj)} {cv : Value} {b : Bool} (E : L2.ExcC X.K C) (kt : PySem.W.kitOne X.K (.ref C) cv = some b) (hJ : ∀ (pins : List (Addr × Obj)) (s : Shared) (σ : L2.St) (H : Hp), L2.Inv (X.suite a ((a, oe) :: pn)) pins σ H s → (∃ μ c fs, RepX (ctX X) μ H c fs cls d ∧ X.mg c = some (.ref C)) → ∃ od, PySem.W.InstAt s.heap a oe C od) :
    CallR (X.suite a ((a, oe) :: pn)) (.builtin "isinstance") (fun xs H Q => ∃ (c : V), xs = [.ref a, c] ∧ (∀ u, RelV c u → u = cv) ∧ (∃ μ c fs, RepX (ctX X) μ H c fs cls d ∧ X.mg c = some (.ref C)) ∧ Q (.bl b) H) := by
  intro pins s σ H xs us Q I r h
  obtain ⟨c, rfl, hcv, hx, q⟩ := h
  cases r with
  | cons rx rr =>
    cases rr with
    | cons rt rr =>
      cases rr
      cases rx
      have ec := hcv _ rt
      subst ec
      obtain ⟨od, J⟩ := hJ pins s σ H I hx
      have hcl : (PySem.W.clsIn X.K C).isSome = true := by
        obtain ⟨cd, hc, _⟩ := PySem.W.any_some E.hd
        rw [hc]; rfl
      exact PySem.W.kia_one (PySem.W.kitx_exc hcl E.hg E.hk E.hs E.ha E.hn E.ht E.hm) I.kIn J kt (fun z => nomatch z) fun tk => ⟨.bl b, H, I.kept (t' := tk) fun _ _ z => z, rfl, q⟩
theorem x_isi {C : Addr} {n cn tn : Str} {T : String} {j : Nat} {oe : Obj} {pn : List (Addr × Obj)} {p p1 p2 pos : Pos} {b : Bool} (gC : X.mg cn = some (.ref C)) (E : L2.ExcC X.K C) (kt : PySem.W.kitOne X.K (.ref C) (.type T) = some b)
    (hg : Gl X "isinstance") (hm : X.mg "isinstance" = none) (hgT : Gl X tn) (hmT : X.mg tn = none) (hvT : bootBuiltins tn = some (.type T)) (hvI : bootBuiltins "isinstance" = some (.builtin "isinstance"))
    (hN : X.N[j]? = some n) (hv : Vis X.env.scope n) (hz : Zc cls d oe) (hf : ∃ vs, oe.data = .fields vs)
    (hd : (n == ("__debug__" : Str)) = false := by decide) (hcd : (n == ("__classdict__" : Str)) = false := by decide) (hnT : tn ≠ "__name__" := by decide) (hdT : (tn == ("__debug__" : Str)) = false := by decide)
    (he : starEach [.Name n p1, .Name tn p2] X.env = (false, eval (.Name n p1) X.env) :: starEach [.Name tn p2] X.env := by rfl) (he2 : starEach [.Name tn p2] X.env = (false, eval (.Name tn p2) X.env) :: starEach [] X.env := by rfl) (hpl : (backTo pos (starEach [.Name tn p2] X.env)).any (·.1) = false := by rfl) :
    PE (X.suite a ((a, oe) :: pn)) (.Call (.Name "isinstance" p) [.Name n p1, .Name tn p2] [] pos) (rdX X (some j) a cls d (xIsi cn b)) := by
  refine ⟨fun pins s σ H Q I ⟨hj, μ, c, fs, dv, rx, e, k⟩ => ?_⟩
  unfold xIsi at e
  split at e
  · rename_i hc
    subst hc
    cases e
    have v1 : PE (X.suite a ((a, oe) :: pn)) (.Name n p1) _ := pe_var (X := X.suite a ((a, oe) :: pn)) hN hv hd hcd
    have v2 : PE (X.suite a ((a, oe) :: pn)) (.Name tn p2) _ := pe_bltn (X := X.suite a ((a, oe) :: pn)) (v := .ty T) hgT hmT hvT rfl hnT hdT
    refine (pe_callB (X := X.suite a ((a, oe) :: pn)) (call_isX (cls := cls) (d := d) (C := C) (cv := .type T) E kt fun pins s σ H I ⟨μ, c', fs', rx', gc'⟩ => (inst_at gc' I rx' rfl hz hf).2) hg hm hvI (pa_cons v1 (pa_cons v2 pa_nil he2) he) (by decide) (by decide) he hpl).run pins s σ H Q I ?_
    exact ⟨_, hj j rfl, .ty T, rfl, fun u r => r, ⟨μ, c, fs, rx, gC⟩, k _ rfl⟩
  · cases e
def mXL (f : XF (List D)) (c : Str) (fs : List (Str × D)) : M D := fun _ h => match f c fs with
  | some ds => if ds.length ≤ 1000000 then (Nv.n (.lst ds)).lift h else none
  | none => none
/-- an expression of a suite -/
def rdXE (X : Cx) (i : Option Nat) (a : Addr) (cls : Value) (d : Option Addr) (m : Str → List (Str × D) → M D) : TE := fun σ H Q =>
  (∀ j, i = some j → σ[j]? = some (some (.ref a))) ∧ ∃ ρ L μ h c fs, Rel (ctX X) L ρ σ μ H h ∧ RepX (ctX X) μ H c fs cls d ∧ Sat X WN L σ μ H (m c fs ρ h) fun d _ μ' H' => ∀ x, RepV (ctX X) μ' H' d x → Q x H'
theorem xe_lst {es : List Expr} {f : XF (List D)} {pos : Pos} (ha : PA Y es (rdXA X i a cls d f)) : PE Y (.List es pos) (rdXE X i a cls d (mXL f)) := pe_imp (pe_lst ha) fun σ H Q ⟨hj, ρ, L, μ, h, c, fs, rel, rx, q⟩ => by
  unfold mXL at q
  cases e : f c fs with
  | none => simp only [e] at q; exact q.none
  | some ds =>
    simp only [e] at q
    split at q
    · rename_i hl
      obtain ⟨m, em, want⟩ := Sat.lift (n := some (.n (.lst ds))) rel.hr q
      cases em
      exact ⟨hj, μ, c, fs, ds, rx, e, fun vs rl => ⟨by rw [rl.length]; exact small6 hl, fun p hp => want.lst rl hp⟩⟩
    · exact q.none
theorem xs_set {e : Expr} {m : Str → List (Str × D) → M D} {q : Nat} {x : Str} {pos' pos2 : Pos} (hN : Y.N.Nodup) (hi : Y.N[q]? = some x) (hx : Loc Y.env.scope x) (he : PE Y e (rdXE X i a cls d m)) (hs : swapsWith e (some (.Name x pos')) pos2.line Y.env = pure false := by rfl)
    (hf : Y.fn x = true ∨ Y.env.scope.names.lookup x = some .local := by first | exact .inl rfl | exact .inr rfl | assumption) : PSs Y [.Assign [.Name x pos'] e pos2] (tsX X i (fun c fs => mSet q (m c fs)) a cls d) :=
  pss_one (ps_imp (ps_set hN hi hx he hs hf) fun D σ H ⟨hj, ρ, L, μ, h, c, fs, rel, rx, q⟩ => ⟨hj, ρ, L, μ, h, c, fs, rel, rx, (q.bind rel).imp fun b h1 μ1 H1 g1 _ ⟨rel1, q1⟩ y rb => q1 _ μ1 H1 .refl (rel1.set rb)⟩)
end
end Rh

set_option Elab.async false
set_option linter.all false
set_option maxRecDepth 100000
set_option maxHeartbeats 2000000
set_option autoImplicit false
namespace Rh
open PySem PySem.Spec PyProof.Rows L2
variable [Tbs]
section
variable {X : Cx}
end
/-! ### words for a text's operators and built-in functions -/
def dAdd : Hs → D → D → Option Nv := fun h d e => match dInt (fun i j => .int (i + j)) h d e with | some n => some n | none => (fun h d e => match dCatT h d e with | some n => some n | none => dCatL h d e) h d e
def dSub : Hs → D → D → Option Nv := dInt fun i j => .int (i - j)
def dMod : Hs → D → D → Option Nv := dIntC (fun _ j => decide (0 < j)) fun i j => .int (i % j)
def dLt : Hs → D → D → Option Nv := dInt fun i j => .bl (decide (i < j))
def dGt : Hs → D → D → Option Nv := dInt fun i j => .bl (decide (j < i))
def dGe : Hs → D → D → Option Nv := dInt fun i j => .bl (decide (j ≤ i))
def dIx : Hs → D → D → Option Nv := fun h d e => match dIxT h d e with | some n => some n | none => (fun h d e => match dIxL h d e with | some n => some n | none => dIxD h d e) h d e
def dLenA : Hs → List D → Option Nv := fun h d => match dLen h d with | some n => some n | none => dLenD h d
def dListA : Hs → List D → Option Nv := fun h d => match dList h d with | some n => some n | none => dListD h d
section
variable {X : Cx} {W : WX} {a b : Expr} {ma mb : M D} {pos : Pos} {k : Nat}
theorem hu_of (hr : Room k X.A) : X.A.units + 65 < cLine := by have := hr.un; omega
theorem hu_of4 (hr : Room k X.A) : X.A.units + 64 < cLine := by have := hr.un; omega
/-- a comparison by its operator -/
structure CmpW (X : Cx) (op : CmpOp) (f : Hs → D → D → Option Nv) : Prop where
  ex : ∃ r : R2, OpR X (compareOp op) r ∧ Cov2 (ctX X) r f
theorem w_lt : CmpW X .Lt dLt := ⟨_, op_lt, cov_rI0 fun _ _ => rfl⟩
theorem w_gt : CmpW X .Gt dGt := ⟨_, op_gt, cov_rI0 fun _ _ => rfl⟩
theorem w_ge : CmpW X .GtE dGe := ⟨_, op_ge, cov_rI0 fun _ _ => rfl⟩
theorem e_cmpW {op : CmpOp} {f : Hs → D → D → Option Nv} (c : CmpW X op f) (hm : behindInMarks op b = false) (ha : PE X a (rd X W ma)) (hb : PE X b (rd X W mb)) : PE X (.Compare a [op] [b] pos) (rd X W (mOp2 f ma mb)) := by
  obtain ⟨r, h1, h2⟩ := c.ex
  exact e_cmp h1 h2 hm ha hb
theorem t_cmpW {op : CmpOp} {f : Hs → D → D → Option Nv} (c : CmpW X op f) (hm : behindInMarks op b = false) (ha : PE X a (rd X W ma)) (hb : PE X b (rd X W mb)) : PT X (.Compare a [op] [b] pos) (rdT X W (mB (mOp2 f ma mb))) := by
  obtain ⟨r, h1, h2⟩ := c.ex
  exact t_cmp h1 h2 hm ha hb
theorem b_add (ha : PE X a (rd X W ma)) (hb : PE X b (rd X W mb)) : PE X (.BinOp a .Add b pos) (rd X W (mOp2 dAdd ma mb)) :=
  e_bin (OpR.or' op_add (OpR.or' op_catF op_cat)) ((cov_rI0 fun _ _ => rfl).or (cov_catT.or cov_catL)) ha hb
theorem b_sub (ha : PE X a (rd X W ma)) (hb : PE X b (rd X W mb)) : PE X (.BinOp a .Sub b pos) (rd X W (mOp2 dSub ma mb)) := e_bin op_sub (cov_rI0 fun _ _ => rfl) ha hb
theorem b_mod (ha : PE X a (rd X W ma)) (hb : PE X b (rd X W mb)) : PE X (.BinOp a .Mod b pos) (rd X W (mOp2 dMod ma mb)) := e_bin op_mod (cov_rI (fun _ _ h => of_decide_eq_true h) fun _ _ => rfl) ha hb
theorem x_ix (hr : Room k X.A) (ha : PE X a (rd X W ma)) (hb : PE X b (rd X W mb)) (hs : PlainIx b := by exact fun _ _ => rfl) : PE X (.Subscript a b pos) (rd X W (mOp2 dIx ma mb)) :=
  e_ix (IxR.or' ix_tup (IxR.or' ix_list (ix_dct (hu_of hr)))) (cov_ixT.or (cov_ixL.or cov_ixD)) ha hb hs
section
variable {p : Pos} {e : Expr} {es : List Expr} {ms : M (List D)}
theorem f_len (hg : Gl X "len") (hm : X.mg "len" = none) (ha : PA X (e :: es) (rdA X W ms)) (he : starEach (e :: es) X.env = (false, eval e X.env) :: starEach es X.env := by rfl) (hpl : (backTo pos (starEach es X.env)).any (·.1) = false := by rfl) :
    PE X (.Call (.Name "len" p) (e :: es) [] pos) (rd X W (mOpA dLenA ms)) := e_callB (CallR.or call_len_seq call_lenD) (cov_len.or cov_lenD) boot_len hg hm ha (by decide) (by decide) he hpl
theorem f_list (hc : X.calm = true) (hv : bootBuiltins "list" = some (.type "list")) (hg : Gl X "list") (hm : X.mg "list" = none) (ha : PA X (e :: es) (rdA X W ms)) (he : starEach (e :: es) X.env = (false, eval e X.env) :: starEach es X.env := by rfl) (hpl : (backTo pos (starEach es X.env)).any (·.1) = false := by rfl) :
    PE X (.Call (.Name "list" p) (e :: es) [] pos) (rd X W (mOpA dListA ms)) := e_callTy (CallR.or call_list_of (call_listD hc)) (cov_list.or cov_listD) hv hg hm ha (by decide) (by decide) he hpl
theorem f_tuple (hv : bootBuiltins "tuple" = some (.type "tuple")) (hg : Gl X "tuple") (hm : X.mg "tuple" = none) (ha : PA X (e :: es) (rdA X W ms)) (he : starEach (e :: es) X.env = (false, eval e X.env) :: starEach es X.env := by rfl) (hpl : (backTo pos (starEach es X.env)).any (·.1) = false := by rfl) :
    PE X (.Call (.Name "tuple" p) (e :: es) [] pos) (rd X W (mOpA dTuple ms)) := e_callTy call_tupF cov_tuple hv hg hm ha (by decide) (by decide) he hpl
theorem f_int (hv : bootBuiltins "int" = some (.type "int")) (hg : Gl X "int") (hm : X.mg "int" = none) (ha : PA X (e :: es) (rdA X W ms)) (he : starEach (e :: es) X.env = (false, eval e X.env) :: starEach es X.env := by rfl) (hpl : (backTo pos (starEach es X.env)).any (·.1) = false := by rfl) :
    PE X (.Call (.Name "int" p) (e :: es) [] pos) (rd X W (mOpA dInt1 ms)) := e_callTy call_int1 cov_int hv hg hm ha (by decide) (by decide) he hpl
theorem f_abs (hv : bootBuiltins "abs" = some (.builtin "abs")) (hg : Gl X "abs") (hm : X.mg "abs" = none) (ha : PA X (e :: es) (rdA X W ms)) (he : starEach (e :: es) X.env = (false, eval e X.env) :: starEach es X.env := by rfl) (hpl : (backTo pos (starEach es X.env)).any (·.1) = false := by rfl) :
    PE X (.Call (.Name "abs" p) (e :: es) [] pos) (rd X W (mOpA dAbs ms)) := e_callB call_abs cov_abs hv hg hm ha (by decide) (by decide) he hpl
theorem f_all (hc : X.calm = true) (hv : bootBuiltins "all" = some (.builtin "all")) (hg : Gl X "all") (hm : X.mg "all" = none) (ha : PA X (e :: es) (rdA X W ms)) (he : starEach (e :: es) X.env = (false, eval e X.env) :: starEach es X.env := by rfl) (hpl : (backTo pos (starEach es X.env)).any (·.1) = false := by rfl) :
    PE X (.Call (.Name "all" p) (e :: es) [] pos) (rd X W (mOpA dAll ms)) := e_callB (cr_all hc) cov_all hv hg hm ha (by decide) (by decide) he hpl
theorem f_isi (hv : bootBuiltins "isinstance" = some (.builtin "isinstance")) (hg : Gl X "isinstance") (hm : X.mg "isinstance" = none) (ha : PA X (e :: es) (rdA X W ms)) (he : starEach (e :: es) X.env = (false, eval e X.env) :: starEach es X.env := by rfl) (hpl : (backTo pos (starEach es X.env)).any (·.1) = false := by rfl) :
    PE X (.Call (.Name "isinstance" p) (e :: es) [] pos) (rd X W (mOpA dIsi ms)) := e_callB (CallR.or call_isi (CallR.or call_isiF call_isiK)) cov_isi hv hg hm ha (by decide) (by decide) he hpl
end
end
section
variable {X : Cx} {W : WX} {e a b c : Expr} {ma mb mc : M D} {pos : Pos}
theorem tkF {X : Cx} : Takes X WF := fun _ _ x => by
  obtain ⟨_, _, _, _, _, _, _, _, _, _, _, _, _, _, _, _, z⟩ := x
  exact z.elim
end
/-! ### a def that calls itself: by how deep it may -/
def fuelF (N : List Str) (m : FM → MS) : Nat → FM
  | 0 => fun _ _ => none
  | n + 1 => runDef N.length (m (fuelF N m n))
theorem fn_none {P : Program} {C : Ct} {base : Heap} {ps : List Str} {k np : Nat} {f : Addr} {fd : FuncData} (hp : ps.length = np) : FnOk P C.w C.K C.mg base (L2.CX P C.w) k f fd ps (spF C np fun _ _ => none) :=
  ⟨fun vs H Q E ⟨L, μ, h, as, q, _⟩ => q.trans hp.symm, fun A outer s H args us vs Q E hr e0 hb r ⟨L, μ, h, as, h1, h2, h3, h4⟩ => False.elim h4⟩
theorem fn_recK {P : Program} {w : World} {K : PySem.W.Frag} {mg : Str → Option Value} {base : Heap} {N ps : List Str} {np : Nat} {f : Addr} {fd : FuncData} {m : FM → MS} (hp : ps.length = np) (k0 : Nat)
    (step : ∀ (j : Nat) (g : FM), FnOk P w K mg base (L2.CX P w) (k0 + j) f fd ps (spF ⟨w, K, mg⟩ np g) → FnOk P w K mg base (L2.CX P w) (k0 + j + 1) f fd ps (spF ⟨w, K, mg⟩ np (runDef N.length (m g)))) :
    ∀ n : Nat, FnOk P w K mg base (L2.CX P w) (k0 + n) f fd ps (spF ⟨w, K, mg⟩ np (fuelF N m n))
  | 0 => fn_none (C := ⟨w, K, mg⟩) hp
  | n + 1 => step n (fuelF N m n) (fn_recK hp k0 step n)
theorem names_of {X : Cx} {x : Str} {v : Value} (hg : Gl X x) (g : X.mg x = some v) (hd : (x == ("__debug__" : Str)) = false := by decide) : Names X x ((X.mg x).getD .none) := ⟨hg, hd, .inl (by rw [g]; rfl)⟩
end Rh

set_option Elab.async false
set_option linter.all false
set_option maxRecDepth 100000
set_option maxHeartbeats 2000000
set_option autoImplicit false
namespace Rh
open PySem PySem.Spec PyProof.Rows L2
variable [Tbs]

/-! ### slices -/
def rdO (X : Cx) (W : WX) (m : M (Option Int)) : TO := fun σ H Q => rdG X W m σ H fun _ _ o _ _ H' => Q o H'
def mPart (m : M D) : M (Option Int) := mBind m fun d => fun _ h => match d with
  | .int i => some (.ok (some i) h)
  | _ => none
def cutD (xs : List D) (lo hi : Option Int) : List D := (xs.drop (HT.sIx xs.length 0 lo)).take (HT.sIx xs.length xs.length hi - HT.sIx xs.length 0 lo)
def dSl (h : Hs) (d : D) (lo hi : Option Int) : Option Nv := match d with
  | .tup ds => some (.v (.tup (cutD ds lo hi)))
  | d => (lstD h d).map fun ds => .n (.lst (cutD ds lo hi))
def mSl (m : M D) (lo hi : M (Option Int)) : M D := mBind m fun d => mBind lo fun l => mBind hi fun u => fun _ h => lift h (dSl h d l u)
theorem cut_all {α : Type} (xs : List α) {lo hi : Option Int} (h : HT.sIx xs.length 0 lo = 0 ∧ HT.sIx xs.length xs.length hi = xs.length) : (xs.drop (HT.sIx xs.length 0 lo)).take (HT.sIx xs.length xs.length hi - HT.sIx xs.length 0 lo) = xs := by
  rw [h.1, h.2, List.drop_zero, Nat.sub_zero, List.take_length]
section
variable {X : Cx} {W : WX} {C : Ct} {L : List Nat} {μ : Mu} {H : Hp} {h : Hs} {Q : VK}
theorem po_imp {e : Option Expr} {t t' : TO} (p : PO X e t) (h : ∀ σ H Q, t' σ H Q → t σ H Q) : PO X e t' := ⟨fun pins s σ H Q I q => p.run pins s σ H Q I (h _ _ _ q)⟩
theorem o_none : PO X none (rdO X W (mPure none)) := po_imp po_none fun σ H Q q => let ⟨_, _, _, _, _, k⟩ := rdG_pure q; k
theorem o_some {e : Expr} {m : M D} (h : PE X e (rd X W m)) : PO X (some e) (rdO X W (mPart m)) := po_imp (po_some h) fun σ H Q q => rdG_imp (rdG_bind q) fun ρ L d h1 μ1 H1 ⟨rel1, q1⟩ x rx => by
  split at q1
  · exact ⟨_, rx, q1 μ1 H1 .refl rel1.hr⟩
  · exact q1.none
theorem RepL.cut {ds : List D} {vs : List V} {lo hi : Option Int} (q : RepL C μ H ds vs) : RepL C μ H (cutD ds lo hi) (cutV vs lo hi) := by
  unfold cutD cutV
  rw [q.length]
  exact (q.drop _).take _
theorem sl_cov {d : D} {x : V} {lo hi : Option Int} {n : Nv} (hr : HR C L μ H h) (r : RepV C μ H d x) (e : dSl h d lo hi = some n) (want : Want C μ H n Q) : rSlL C.K x lo hi H Q ∨ rSlF C.K x lo hi H Q := by
  unfold dSl at e
  split at e
  · rename_i ds
    obtain ⟨a, vs, rfl, t, q⟩ := (show RepV C μ H (.tup ds) x from r)
    cases e
    refine .inr ⟨a, vs, rfl, t.sq, fun h => ?_, fun _ => want.tup q.cut⟩
    rw [q.length] at h
    rw [show cutD ds lo hi = ds from cut_all ds h] at want
    exact want.old ⟨a, vs, rfl, t, q⟩
  · obtain ⟨ds, e1, rfl⟩ := Option.map_eq_some_iff.mp e
    obtain ⟨a, vs, rfl, t, q⟩ := lstD_ok hr r e1
    exact .inl ⟨a, vs, rfl, t, fun p hp => want.lst q.cut hp⟩
theorem e_slice {e : Expr} {lo hi : Option Expr} {m : M D} {ml mh : M (Option Int)} {p2 pos : Pos} (he : PE X e (rd X W m)) (hl : PO X lo (rdO X W ml)) (hu : PO X hi (rdO X W mh)) : PE X (.Subscript e (.Slice lo hi none p2) pos) (rd X W (mSl m ml mh)) := by
  refine pe_imp (pe_slice (sl_list.or sl_tupF) he hl hu) fun σ H Q ⟨ρ, L, μ, h, rel, q⟩ => ⟨ρ, L, μ, h, rel, (q.bind rel).imp fun d h1 μ1 H1 g1 _ ⟨_, rel1, q1⟩ x rx => ⟨ρ, L, μ1, h1, rel1, (q1.bind rel1).imp fun l h2 μ2 H2 g2 _ ⟨_, rel2, q2⟩ => ⟨ρ, L, μ2, h2, rel2, (q2.bind rel2).imp fun u h3 μ3 H3 g3 _ ⟨_, rel3, q3⟩ => ?_⟩⟩⟩
  obtain ⟨n, en, want⟩ := Sat.lift rel3.hr q3
  exact sl_cov rel3.hr ((rx.go rel1.hr g2).go rel2.hr g3) en want
/-! ### keywords -/
theorem kk_nil : PK X [] (rdA X W mNil) := ⟨fun pos pins s σ H Q I q => by
  obtain ⟨_, _, _, _, _, k⟩ := rdG_pure q
  exact pk_nil.run pos pins s σ H Q I (k [] rfl)⟩
theorem kk_cons {nm : Option Str} {e : Expr} {kpos : Pos} {kws : List Keyword} {m : M D} {ms : M (List D)} (ha : PE X e (rd X W m)) (hr : PK X kws (rdA X W ms)) : PK X (⟨nm, e, kpos⟩ :: kws) (rdA X W (mCons m ms)) :=
  ⟨fun pos pins s σ H Q I q => (pk_cons ha hr).run pos pins s σ H Q I (rd_cons q)⟩
end
def permL {α : Type} (pm : List Nat) (xs : List α) : List α := pm.filterMap fun i => xs[i]?
theorem vals_perm {vs : List V} {us : List Value} (r : Vals vs us) : ∀ pm : List Nat, Vals (permL pm vs) (permL pm us)
  | [] => .nil
  | i :: pm => by
    have ih := vals_perm r pm
    have hl := r.length
    show Vals ((i :: pm).filterMap _) ((i :: pm).filterMap _)
    rw [List.filterMap_cons, List.filterMap_cons]
    by_cases h : i < vs.length
    · obtain ⟨u, e, ru⟩ := r.get (List.getElem?_eq_getElem h)
      rw [List.getElem?_eq_getElem h, e]
      exact .cons ru ih
    · rw [List.getElem?_eq_none (Nat.le_of_not_lt h), List.getElem?_eq_none (by omega)]
      exact ih
theorem RepL.perm {C : Ct} {μ : Mu} {H : Hp} {ds : List D} {vs : List V} (r : RepL C μ H ds vs) : ∀ pm : List Nat, RepL C μ H (permL pm ds) (permL pm vs)
  | [] => rfl
  | i :: pm => by
    have ih := RepL.perm r pm
    have hl := r.length
    show RepL C μ H ((i :: pm).filterMap _) ((i :: pm).filterMap _)
    rw [List.filterMap_cons, List.filterMap_cons]
    by_cases h : i < ds.length
    · obtain ⟨u, e, ru⟩ := r.get (List.getElem?_eq_getElem h)
      rw [List.getElem?_eq_getElem h, e]
      exact ⟨u, _, rfl, ru, ih⟩
    · rw [List.getElem?_eq_none (Nat.le_of_not_lt h), List.getElem?_eq_none (by omega)]
      exact ih
def pmF {α : Type} (nu nw : Nat) (pm : List Nat) (us ws : List α) : List α := if us.length = nu ∧ ws.length = nw then permL pm (us ++ ws) else []
abbrev KwC (K : PySem.W.Frag) (fd : FuncData) (ps ks : List Str) (nu nw : Nat) (pm : List Nat) : Prop := KBinds K fd ps ks (pmF nu nw pm) (pmF nu nw pm)
theorem kwc_of {K : PySem.W.Frag} {x qual : Str} {st : Stmt} {f : Addr} {fd : FuncData} {ps ks : List Str} {nu nw : Nat} {pm : List Nat} (F : Fun K x qual st f fd) (hp : 0 < ps.length)
    (h : ∀ (kV doc pm' : Value) (an : Option Addr) (cdv ct : Value) (us ws : List Value), us.length = nu → ws.length = nw → bindArgs (PySem.W.fnOf x qual (defArgs st) (defBody st) (defScope st) .none kV doc pm' an cdv ct) ⟨us, ks.zip ws⟩ = pure (ps.zip (permL pm (us ++ ws)))) : KwC K fd ps ks nu nw pm := by
  obtain ⟨oc, od, kV, doc, pm', an, cdv, ct, osl, rfl, lk, hcd⟩ := F.ex
  refine ⟨fun s us ws _ hl => ?_, fun {vs zs us ws} r rz => ?_⟩
  · unfold pmF at hl ⊢
    split at hl
    · rename_i c
      rw [if_pos c]
      exact .of_eq (h kV doc pm' an cdv ct us ws c.1 c.2)
    · exact absurd hl (by simp only [List.length_nil]; omega)
  · unfold pmF
    rw [r.length, rz.length]
    split
    · exact vals_perm (r.append rz) pm
    · exact .nil
theorem pmF_len {α β : Type} {nu nw : Nat} {pm : List Nat} {as bs : List α} {vs zs : List β} (h1 : as.length = nu) (h2 : bs.length = nw) (e1 : vs.length = as.length) (e2 : zs.length = bs.length) : pmF nu nw pm vs zs = permL pm (vs ++ zs) := by
  unfold pmF
  rw [if_pos ⟨e1.trans h1, e2.trans h2⟩]
def mCallK (f : FM) (nu nw : Nat) (pm : List Nat) (np : Nat) (ms ks : M (List D)) : M D := mBind ms fun as => mBind ks fun bs => fun _ h => if as.length = nu ∧ bs.length = nw ∧ (permL pm (as ++ bs)).length = np then (match f (permL pm (as ++ bs)) h with
  | none => none
  | some (.rt d h') => some (.ok d h')
  | some (.ex c fs h') => some (.ex c fs h')) else none
section
variable {X : Cx} {W : WX} {k np nu nw : Nat} {f : Addr} {fd : FuncData} {ps ks : List Str} {pm : List Nat} {fm : FM} {x : Str} {p pos : Pos} {e : Expr} {es : List Expr} {kws : List Keyword} {ms mk : M (List D)} {σ : L2.St} {H : Hp} {Q : VK}
theorem run_kwc {pins : List (Addr × Obj)} {s : Shared} {us ws : List Value} {vs zs : List V} (F : FnOk X.prog X.w X.K X.mg X.base (L2.CX X.prog X.w) k f fd ps (spF (ctX X) np fm)) (hr : Room k X.A) (hb : KwC X.K fd ps ks nu nw pm) (tk : Takes X W)
    (I : L2.Inv X pins σ H s) (r : Vals vs us) (rz : Vals zs ws) (h : spF (ctX X) np fm (pmF nu nw pm vs zs) H Q (fun cls d H' => W cls d σ H')) : wpAny (model X.prog X.w) X.A (call (.ref f) us (ks.zip ws)) (EP X pins σ Q) X.xe s := by
  have r2 := hb.rel r rz
  have hl : (pmF nu nw pm us ws).length = ps.length := by rw [← r2.length]; exact F.len _ _ _ _ h
  refine wpAny_call (codeAny_mono (F.run X.A X.stack s H ⟨us, ks.zip ws⟩ (pmF nu nw pm us ws) (pmF nu nw pm vs zs) Q _ hr I.env0 (hb.to s us ws I.kIn hl) r2 h) fun r s' hq => ?_)
  cases r with
  | error e => exact passes_at tk σ pins H s e s' I hq
  | ok fl =>
    cases fl with
    | ret u => exact I.after hq
    | next => exact False.elim hq
    | brk => exact False.elim hq
    | cont => exact False.elim hq
theorem e_kwc0 (F : FnOk X.prog X.w X.K X.mg X.base (L2.CX X.prog X.w) k f fd ps (spF (ctX X) np fm)) (hr : Room k X.A) (hm : X.mg x = some (.ref f)) (hk : PySem.W.keepIn X.K (.ref f) = true) (hb : KwC X.K fd ps ks nu nw pm) (tk : Takes X W) (hg : Gl X x)
    (hkw : PK X kws (rdA X W mk)) (hall : (backToKw pos (keywordEach kws X.env)).all (·.1.isSome) = true := by rfl) (hks : (backToKw pos (keywordEach kws X.env)).filterMap (·.1) = ks := by rfl)
    (hdb : (x == ("__debug__" : Str)) = false := by decide) (hpl : ((backTo pos (starEach [] X.env)).any (·.1) || (backToKw pos (keywordEach kws X.env)).any (·.1.isNone)) = false := by rfl) :
    PE X (.Call (.Name x p) [] kws pos) (rd X W (mCallK fm nu nw pm np mNil mk)) := by
  refine ⟨fun pins s σ H Q I q => ?_⟩
  refine wpAny_Call_Name_kw (ld_glob I hg hm ?_ hdb)
  have q2 : rdA X W mk σ H fun zs H2 => spF (ctX X) np fm (pmF nu nw pm [] zs) H2 Q (fun cls d H' => W cls d σ H') := by
    obtain ⟨ρ, L, μ, h, rel, q⟩ := q
    have q := (q.bind rel) μ H .refl rel.hr
    obtain ⟨_, rel, q⟩ := q
    refine ⟨ρ, L, μ, h, rel, (q.bind rel).imp fun bs h2 μ2 H2 g2 _ ⟨_, rel2, q2⟩ zs rz => ?_⟩
    split at q2
    · rename_i hl
      rw [show pmF nu nw pm ([] : List V) zs = permL pm ([] ++ zs) from pmF_len (as := ([] : List D)) hl.1 hl.2.1 rfl rz.length]
      exact sp_of hl.2.2 rel2.hr (RepL.perm rz pm) q2
    · exact q2.none
  refine PySem.W.callWith_KW0 (h₀ := X.base) I.ok.mod.kin hk hall (thn (hkw.run pos pins s σ H _ I q2) fun ws s1 ⟨zs, H1, I1, rz, q⟩ => ⟨I1.kIn, ?_⟩) hpl
  rw [hks]
  exact run_kwc F hr hb tk I1 .nil rz q
end
/-! ### list(range(..)), tuple(range(..)) -/
theorem repL_ints {C : Ct} {μ : Mu} {H : Hp} : ∀ is : List Int, RepL C μ H (is.map D.int) (is.map V.int)
  | [] => rfl
  | i :: is => ⟨.int i, is.map V.int, rfl, rfl, repL_ints is⟩
section
variable {X : Cx} {W : WX} {C : Ct} {a b : Expr} {ma mb : M D} {pos p p2 pos2 : Pos}
end

/-! ### max, min, sum, sorted of ints -/
def intsD : List D → Option (List Int)
  | [] => some []
  | .int i :: ds => (intsD ds).map (i :: ·)
  | _ => none
theorem intsD_ok {C : Ct} {μ : Mu} {H : Hp} : ∀ {ds : List D} {is : List Int} {vs : List V}, RepL C μ H ds vs → intsD ds = some is → vs = is.map V.int
  | [], _, _, h, e => by cases e; exact h
  | d :: ds, is, _, ⟨v, r, rfl, h1, h2⟩, e => by
    cases d with
    | int i =>
      obtain ⟨cs, e1, rfl⟩ := Option.map_eq_some_iff.mp (show (intsD ds).map (i :: ·) = some is from e)
      rw [intsD_ok h2 e1, show v = V.int i from h1]
      rfl
    | _ => cases e
/-- the greatest, the least -/
def mxI : Int → List Int → Int
  | a, [] => a
  | a, b :: r => mxI (if b > a then b else a) r
theorem mxI_mem : ∀ (a : Int) (r : List Int), mxI a r = a ∨ mxI a r ∈ r
  | a, [] => .inl rfl
  | a, b :: r => by
    unfold mxI
    rcases mxI_mem (if b > a then b else a) r with h | h
    · rw [h]; split <;> simp
    · exact .inr (List.mem_cons_of_mem _ h)
theorem mxI_le : ∀ (a : Int) (r : List Int), a ≤ mxI a r ∧ ∀ y ∈ r, y ≤ mxI a r
  | a, [] => ⟨Int.le_refl _, fun _ h => nomatch h⟩
  | a, b :: r => by
    unfold mxI
    obtain ⟨h1, h2⟩ := mxI_le (if b > a then b else a) r
    refine ⟨?_, fun y hy => ?_⟩
    · split at h1 <;> split <;> first | omega | assumption
    · cases hy with
      | head => split at h1 <;> split <;> first | omega | assumption
      | tail _ hy => exact h2 y hy
def dMax2 (_ : Hs) : List D → Option Nv
  | [.int i, .int j] => some (.v (.int (if j > i then j else i)))
  | _ => none
/-- the one argument, a list of ints -/
def boxIs (h : Hs) : List D → Option (List Int)
  | [d] => match lstD h d with
    | some ds => intsD ds
    | none => none
  | _ => none
def dMaxL (h : Hs) (ds : List D) : Option Nv := match boxIs h ds with
  | some (i :: is) => some (.v (.int (mxI i is)))
  | _ => none
section
variable {C : Ct} {L : List Nat}
theorem boxIs_ok {μ : Mu} {H : Hp} {h : Hs} (hr : HR C L μ H h) {ds : List D} {xs : List V} {is : List Int} (r : RepL C μ H ds xs) (e : boxIs h ds = some is) : ∃ a, xs = [.ref a] ∧ SqL C.K H a (is.map V.int) := by
  unfold boxIs at e
  split at e
  · split at e
    · rename_i e1
      obtain ⟨x, rfl, q⟩ := r.one
      obtain ⟨a, vs, rfl, t, q⟩ := lstD_ok hr q e1
      rw [intsD_ok q e] at t
      exact ⟨a, rfl, t⟩
    · cases e
  · cases e
theorem cov_max2 : CovA C (fun xs H Q => ∃ i j, xs = [.int i, .int j] ∧ Q (.int (if j > i then j else i)) H) dMax2 := by
  intro H L μ h xs ds n Q hr r1 hf want
  unfold dMax2 at hf
  split at hf
  · cases hf
    obtain ⟨x, y, rfl, h, h'⟩ := r1.two
    cases (show x = V.int _ from h)
    cases (show y = V.int _ from h')
    exact ⟨_, _, rfl, want.old rfl⟩
  · cases hf
theorem mx_is {i m : Int} {is : List Int} (hm : m ∈ i :: is) (hle : ∀ y ∈ i :: is, y ≤ m) : m = mxI i is := by
  have h1 := mxI_le i is
  have h2 := hle (mxI i is) (by rcases mxI_mem i is with h | h <;> simp [h])
  rcases List.mem_cons.mp hm with hm | hm
  · have := h1.1; omega
  · have := h1.2 m hm; omega
theorem cov_maxL : CovA C (rMax C.K) dMaxL := by
  intro H L μ h xs ds n Q hr r1 hf want
  unfold dMaxL at hf
  split at hf
  · rename_i i is e; cases hf
    obtain ⟨a, rfl, t⟩ := boxIs_ok hr r1 e
    refine ⟨a, _, rfl, t, by simp, fun m hm hle => ?_⟩
    rw [mx_is hm hle]
    exact want.old rfl
  · cases hf
end
def dMaxA : Hs → List D → Option Nv := fun h d => match dMax2 h d with | some n => some n | none => dMaxL h d
section
variable {X : Cx} {W : WX} {e : Expr} {es : List Expr} {ms : M (List D)} {pos p : Pos}
theorem f_max (hc : X.calm = true) (hg : Gl X "max") (hm : X.mg "max" = none) (ha : PA X (e :: es) (rdA X W ms)) (he : starEach (e :: es) X.env = (false, eval e X.env) :: starEach es X.env := by rfl) (hpl : (backTo pos (starEach es X.env)).any (·.1) = false := by rfl) :
    PE X (.Call (.Name "max" p) (e :: es) [] pos) (rd X W (mOpA dMaxA ms)) := e_callB (CallR.or (call_max2 hc) (cr_max hc)) (cov_max2.or cov_maxL) boot_max hg hm ha (by decide) (by decide) he hpl
end
end Rh

set_option Elab.async false
set_option linter.all false
set_option maxRecDepth 100000
set_option maxHeartbeats 2000000
set_option autoImplicit false
namespace Rh
open PySem PySem.Spec PyProof.Rows L2
variable [Tbs]

/-! ### methods -/
/-- what an object's class is, by its content -/
abbrev TyOk (X : Cx) (T : String) (ty : V → Hp → Prop) : Prop := ∀ {pins : List (Addr × Obj)} {σ : L2.St} {H : Hp} {s : Shared} {x : V} {v : Value}, L2.Inv X pins σ H s → RelV x v → ty x H → s.TypeIs v T ∧ ∀ a, v = .ref a → ∃ ob, s.heap.get? a = some ob ∧ ob.dict = none
def tBMt (ty : V → Hp → Prop) (r : V → List V → Hp → VK → Prop) (to : TE) (t : TA) : TE := fun σ H Q => to σ H fun x H1 => ty x H1 ∧ t σ H1 fun xs H2 => r x xs H2 Q
section
variable {X : Cx} {o e : Expr} {es : List Expr} {to : TE} {t : TA} {name : Str} {apos cpos : Pos} {T id : String} {r : V → List V → Hp → VK → Prop} {ty : V → Hp → Prop}
theorem pe_bmt (pa : PlainAttrs T) (slot : Slot T name id) (hty : typeOf (.builtin id) = pure (.type "method_descriptor")) (htv : TyOk X T ty) (hm : MtR X id r) (ho : PE X o to) (ha : PA X (e :: es) t)
    (hbase : attributeBase o name X.env (eval o X.env) = eval o X.env := by rfl)
    (hfew : ((backTo cpos (starEach (e :: es) X.env)).all (fun x => !x.1) && (backToKw cpos (keywordEach [] X.env)).all (fun x => x.1.isSome) && decide ((e :: es).length + ([] : List Keyword).length + (if ([] : List Keyword).isEmpty then 0 else 1) < 30)) = true := by rfl)
    (hline : (apos.endLine == cpos.line) = true := by rfl) (hs : starEach (e :: es) X.env = (false, eval e X.env) :: starEach es X.env := by rfl) (hplain : (backTo cpos (starEach es X.env)).any (·.1) = false := by rfl) :
    PE X (.Call (.Attribute o name apos) (e :: es) [] cpos) (tBMt ty r to t) := by
  refine ⟨fun pins s σ H Q I q => wpAny_Call_method_late hbase hfew hline rfl (thn (ho.run pins s σ H _ I q) fun v s1 ⟨x, H1, I1, r1, tx, q1⟩ => ?_)⟩
  obtain ⟨c1, c2⟩ := htv I1 r1 tx
  have hA := ha.run cpos pins s1 σ H1 _ I1 q1
  refine ⟨T, id, pa, slot, hty, c1, c2, ?_⟩
  rw [hs] at hA ⊢
  exact Calls.callWith_builtin (by show (false || (backTo cpos (starEach es X.env)).any (·.1)) = false; rw [hplain] <;> rfl) (Calls.evalArgs_plain (thn hA fun us s2 ⟨vs, H2, I2, r2, q2⟩ => hm pins s2 σ H2 x vs v us Q I2 r1 r2 q2))
theorem tyList : TyOk X "list" (tyV X.K "list") := fun I r t => tyV_is I r t
end
def mMeth (ck : Hs → D → Bool) (f : Hs → D → List D → Option (D × Hs)) (m : M D) (ms : M (List D)) : M D := mBind m fun d => fun ρ h => match ck h d with
  | true => mBind ms (fun ds => fun _ h => match f h d ds with
    | some (d', h') => some (.ok d' h')
    | none => none) ρ h
  | false => none
/-- a method's mirror: the class that is asked for, and what it does -/
structure CovM (C : Ct) (ty : V → Hp → Prop) (r : V → List V → Hp → VK → Prop) (ck : Hs → D → Bool) (f : Hs → D → List D → Option (D × Hs)) : Prop where
  ty : ∀ {L : List Nat} {μ : Mu} {H : Hp} {h : Hs} {d : D} {x : V}, HR C L μ H h → RepV C μ H d x → ck h d = true → ty x H
  run : ∀ {L : List Nat} {μ : Mu} {H : Hp} {h : Hs} {d : D} {x : V} {ds : List D} {xs : List V} {d' : D} {h' : Hs} {Q : VK}, HR C L μ H h → RepV C μ H d x → RepL C μ H ds xs → f h d ds = some (d', h') → (∀ y μ' H', Go L μ H μ' H' → HR C L μ' H' h' → RepV C μ' H' d' y → Q y H') → r x xs H Q
section
variable {X : Cx} {W : WX} {σ : L2.St} {H : Hp} {Q : VK} {ty : V → Hp → Prop} {r : V → List V → Hp → VK → Prop} {ck : Hs → D → Bool} {f : Hs → D → List D → Option (D × Hs)} {m : M D} {ms : M (List D)}
theorem rd_meth (c : CovM (ctX X) ty r ck f) (q : rd X W (mMeth ck f m ms) σ H Q) : tBMt ty r (rd X W m) (rdA X W ms) σ H Q := by
  obtain ⟨ρ, L, μ, h, rel, q⟩ := q
  refine ⟨ρ, L, μ, h, rel, (q.bind rel).imp fun d h1 μ1 H1 g1 _ ⟨_, rel1, q1⟩ x rx => ?_⟩
  cases ek : ck h1 d with
  | false => simp only [ek] at q1; exact q1.none
  | true =>
    simp only [ek] at q1
    refine ⟨c.ty rel1.hr rx ek, ρ, L, μ1, h1, rel1, (q1.bind rel1).imp fun ds h2 μ2 H2 g2 _ ⟨_, rel2, q2⟩ xs rs => ?_⟩
    split at q2
    · rename_i d' h' e
      exact c.run rel2.hr (rx.go rel1.hr g2) rs e fun y μ' H' g r' ry => q2 μ' H' g r' y ry
    · exact q2.none
end
def ckL (h : Hs) (d : D) : Bool := match d with
  | .box n => match h.get n with
    | some (.lst _) => true
    | _ => false
  | _ => false
theorem ckL_ok {C : Ct} {L : List Nat} {μ : Mu} {H : Hp} {h : Hs} {d : D} {x : V} (hr : HR C L μ H h) (rx : RepV C μ H d x) (e : ckL h d = true) : tyV C.K "list" x H := by
  unfold ckL at e
  split at e
  · split at e
    · rename_i e0
      obtain ⟨a, vs, rfl, _, t, _⟩ := hr.lst rx e0
      exact .inl ⟨rfl, vs, .inl (.inl t)⟩
    · cases e
  · cases e
def fAppend (h : Hs) (d : D) (ds : List D) : Option (D × Hs) := match d, ds with
  | .box n, [x] => (match h.get n with
    | some (.lst es) => if es.length < 1000000 then (match h.set n (.lst (es ++ [x])) with
      | some h' => some (.non, h')
      | none => none) else none
    | _ => none)
  | _, _ => none
section
variable {C : Ct} {L : List Nat} {μ : Mu} {H : Hp} {h h' : Hs}
/-- a list box changed -/
theorem HR.setL (hr : HR C L μ H h) {n : Nat} {a : Addr} {ds : List D} {vs : List V} (m : μ[n]? = some a) (e : h.set n (.lst ds) = some h') (rl : RepL C μ H ds vs) : HR C L μ (L2.upd H a (.lst vs)) h' ∧ Go L μ H μ (L2.upd H a (.lst vs)) ∧ Stay μ H μ (L2.upd H a (.lst vs)) := by
  have st := stay_upd hr m (.lst vs)
  obtain ⟨r', g⟩ := hr.upd (ho := .lst vs) (o := .lst ds) m ⟨vs, upd_same, rl.stay st⟩ e
  exact ⟨r', g, st⟩
theorem cov_append : CovM C (tyV C.K "list") rAppend ckL fAppend := ⟨ckL_ok, fun {L μ H h d x ds xs d' h' Q} hr rx rs e k => by
  unfold fAppend at e
  split at e
  · rename_i n y
    split at e
    · rename_i es e0
      split at e
      · rename_i hl
        split at e
        · rename_i h2 e2
          cases e
          obtain ⟨a, vs, rfl, m, t, rl⟩ := hr.lst rx e0
          obtain ⟨v, rfl, rv⟩ := rs.one
          obtain ⟨r', g, st⟩ := hr.setL (vs := vs ++ [v]) m e2 (rl.append ⟨v, [], rfl, rv, rfl⟩)
          exact ⟨a, vs, v, rfl, rfl, t, by rw [rl.length]; exact small6' hl, k _ _ _ g r' rfl⟩
        · cases e
      · cases e
    · cases e
  · cases e⟩
end
section
variable {X : Cx} {W : WX} {o e : Expr} {es : List Expr} {m : M D} {ms : M (List D)} {apos cpos : Pos}
theorem e_append (ho : PE X o (rd X W m)) (ha : PA X (e :: es) (rdA X W ms)) (hbase : attributeBase o "append" X.env (eval o X.env) = eval o X.env := by rfl)
    (hfew : ((backTo cpos (starEach (e :: es) X.env)).all (fun x => !x.1) && (backToKw cpos (keywordEach [] X.env)).all (fun x => x.1.isSome) && decide ((e :: es).length + ([] : List Keyword).length + (if ([] : List Keyword).isEmpty then 0 else 1) < 30)) = true := by rfl)
    (hline : (apos.endLine == cpos.line) = true := by rfl) (hs : starEach (e :: es) X.env = (false, eval e X.env) :: starEach es X.env := by rfl) (hplain : (backTo cpos (starEach es X.env)).any (·.1) = false := by rfl) :
    PE X (.Call (.Attribute o "append" apos) (e :: es) [] cpos) (rd X W (mMeth ckL fAppend m ms)) :=
  pe_imp (pe_bmt PySem.F.plainAttrs_list PySem.F.slot_list_append PySem.F.type_list_append tyList mt_append ho ha hbase hfew hline hs hplain) fun σ H Q q => rd_meth cov_append q
end
section
variable {X : Cx} {W : WX} {m mo mi : M D}
/-- an item of a list, by a place from 0 on -/
def rGetL (K : PySem.W.Frag) : V → V → Hp → VK → Prop := fun o i H Q => ∃ p xs k v, o = .ref p ∧ i = .int k ∧ SqL K H p xs ∧ 0 ≤ k ∧ xs[k.toNat]? = some v ∧ Q v H
theorem get_list : PGet X (rGetL X.K) := by
  intro pins s σ H o i ov iv Q I ro ri h
  obtain ⟨p, xs, k, v, rfl, rfl, hq, hk, e, q⟩ := h
  cases ro
  obtain ⟨tk, rfl⟩ := ri
  obtain ⟨its, rv, pl, hz⟩ := I.list hq
  obtain ⟨w, hw, rw'⟩ := rv.get e
  have hl := rv.length
  have hlt := (List.getElem?_eq_some_iff.mp e).1
  have hn := line63
  exact wpAny_getItem_list pl.isList hk (by omega) (by simpa using hw) ⟨v, H, I, rw', q⟩
def getL (h : Hs) (c k : D) : Option D := match lstD h c, k with
  | some ds, .int j => if 0 ≤ j then ds[j.toNat]? else none
  | _, _ => none
def mAugS (f : Int → Int → Int) (mo mi m : M D) : MS := mDo mo fun c => mDo mi fun k => fun ρ h => match getL h c k with
  | some old => mDo m (fun e => fun ρ h => match old, e with
    | .int a, .int b => (match putD h c k (.int (f a b)) with
      | some h' => some (.nx ρ h')
      | none => none)
    | _, _ => none) ρ h
  | _ => none
theorem s_augS {o i e : Expr} {op : Operator} {f : Int → Int → Int} {pos tpos : Pos} (hu : X.A.units + 65 < cLine) (ho : PE X o (rd X W mo)) (hi : PE X i (rd X W mi)) (he : PE X e (rd X W m)) (hp : PIp X op (ipI f))
    (ha : ∀ ov iv new, augStore i ov iv new = (do holding [new, ov, iv] (setItem ov iv new); release [new, ov, iv] []; pure .next) := by intros; rfl) : PS X (.AugAssign (.Subscript o i tpos) op e pos) (rdS X W (mAugS f mo mi m)) := by
  refine ps_imp (ps_augS ho hi get_list he hp (PSet.or' set_list (set_dct hu)) ha) fun D σ H q => rdG_imp (rdS_bind q) fun ρ L c h1 μ1 H1 ⟨rel1, q1⟩ x rx => ?_
  refine ⟨ρ, L, μ1, h1, rel1, (SatS.bind rel1 q1).imp fun k h2 μ2 H2 g2 _ ⟨rel2, q2⟩ y ry => ?_⟩
  split at q2
  · rename_i old eo
    unfold getL at eo
    split at eo
    · rename_i ds j ed _
      split at eo
      · rename_i hj
        obtain ⟨a, vs, rfl, t, rl⟩ := lstD_ok rel2.hr (rx.go rel1.hr g2) ed
        cases (show y = V.int j from ry)
        obtain ⟨v, ev, rv⟩ := rl.get eo
        refine ⟨a, vs, j, v, rfl, rfl, t, hj, ev, ρ, L, μ2, h2, rel2, (SatS.bind rel2 q2).imp fun e h3 μ3 H3 g3 _ ⟨rel3, q3⟩ z rz => ?_⟩
        split at q3
        · rename_i p q _
          split at q3
          · rename_i h4 e4
            refine ⟨p, q, rv, rz, ?_⟩
            exact put_ok rel3.hr (rx.go rel1.hr (g2.trans g3)) (show RepV (ctX X) μ3 H3 (.int j) (.int j) from rfl) (show RepV (ctX X) μ3 H3 (.int (f p q)) (.int (f p q)) from rfl) e4 fun μ4 H4 g4 r4 => q3 σ μ4 H4 g4 (rel3.go g4 r4)
          · exact q3.none
        · exact q3.none
      · cases eo
    · cases eo
  · exact q2.none
end
end Rh

set_option Elab.async false
set_option linter.all false
set_option maxRecDepth 100000
set_option maxHeartbeats 2000000
set_option autoImplicit false
namespace Rh
open PySem PySem.Spec PyProof.Rows L2
variable [Tbs]
/-! ### floor division, powers, products of wide numbers, tuple * int -/
def dFdv : Hs → D → D → Option Nv := dIntC (fun i j => decide (0 < j ∧ j.natAbs.log2 < 9000)) fun i j => .int (i / j)
def dPow : Hs → D → D → Option Nv := dIntC (fun i j => decide (0 ≤ j ∧ j ≤ 1000000 ∧ i.natAbs < 2 ^ 64)) fun i j => .int (i ^ j.toNat)
def dRepT (_ : Hs) (d e : D) : Option Nv := match d, e with
  | .tup [], .int k => none
  | .tup (a :: as), .int k => if 2 ≤ k ∧ k ≤ 1000 ∧ as.length < 1000 then some (.v (.tup (List.replicate k.toNat (a :: as)).flatten)) else none
  | _, _ => none
theorem cov_repT {C : Ct} : Cov2 C (rRepF C.K) dRepT := by
  intro H L μ h x y d e n Q hr r1 r2 hf want
  unfold dRepT at hf
  split at hf
  · cases hf
  · rename_i a as k
    split at hf
    · rename_i hl
      cases hf
      obtain ⟨p, vs, rfl, t1, q1⟩ := r1
      have l1 := q1.length
      refine ⟨p, k, vs, rfl, r2, t1.sq, ?_, hl.1, hl.2.1, ?_, want.tup (q1.rep _)⟩
      · rintro rfl
        simp at l1
      · rw [l1, List.length_cons]; exact hl.2.2
    · cases hf
  · cases hf
theorem tuple_mul0 (l : Addr) (items : Array Value) (n : Nat) (dd : Option Addr) (sl : Array (Option Value)) (x : Int) (u : Tok) (c0 : (decide (x < -(2 ^ 63)) || decide (x ≥ 2 ^ 63)) = false) (c1 : (items.isEmpty || x == 1) = false) (c2 : (decide (x ≤ 0) || items.isEmpty) = true) :
    Meets (Builtin.«tuple.__mul__» ⟨[.ref l, .int x u], []⟩) (fun _ R s => s.heap.get? l = some { cls := .type "tuple", dict := dd, data := .seq items n, slots := sl } ∧
      R (.ok (.ret (Value.ref s.heap.objs.size))) { s with heap := s.heap.push { cls := Value.type "tuple", data := Data.seq #[] }, toks := s.toks }) :=
  .of_wp fun prog w A R s h => by
    obtain ⟨hp, g, d, tk, os⟩ := s
    obtain ⟨hl, h⟩ := h
    have f1 := AutoSeq1.idx_int
    wp_walk using wpAny_loadPart' hl
    repeat (first
      | (refine wpAny_ite_false (decide_eq_false (by rw [c0]; exact Bool.false_ne_true)) ?_; wp_walk using wpAny_loadPart' hl)
      | (refine wpAny_ite_false (decide_eq_false (by rw [c1]; exact Bool.false_ne_true)) ?_; wp_walk using wpAny_loadPart' hl)
      | (refine wpAny_ite_true (decide_eq_true c2) ?_; wp_walk using wpAny_loadPart' hl))
    exact ⟨_, rfl, h⟩
theorem tuple_mul1 (l : Addr) (items : Array Value) (n : Nat) (dd : Option Addr) (sl : Array (Option Value)) (x : Int) (u : Tok) (c0 : (decide (x < -(2 ^ 63)) || decide (x ≥ 2 ^ 63)) = false) (c1 : (items.isEmpty || x == 1) = true) :
    Meets (Builtin.«tuple.__mul__» ⟨[.ref l, .int x u], []⟩) (fun _ R s => s.heap.get? l = some { cls := .type "tuple", dict := dd, data := .seq items n, slots := sl } ∧
      R (.ok (.ret (Value.ref l))) s) :=
  .of_wp fun prog w A R s h => by
    obtain ⟨hp, g, d, tk, os⟩ := s
    obtain ⟨hl, h⟩ := h
    have f1 := AutoSeq1.idx_int
    wp_walk using wpAny_loadPart' hl
    repeat (first
      | (refine wpAny_ite_false (decide_eq_false (by rw [c0]; exact Bool.false_ne_true)) ?_; wp_walk using wpAny_loadPart' hl)
      | (refine wpAny_ite_true (decide_eq_true c1) ?_; wp_walk using wpAny_loadPart' hl))
    exact ⟨_, rfl, h⟩
/-- tuple * int where nothing is repeated -/
def rRep1 (K : PySem.W.Frag) : R2 := fun x y H Q => ∃ l k xs, x = .ref l ∧ y = .int k ∧ SqT K H l xs ∧ -1000 ≤ k ∧ k ≤ 1000 ∧ (xs = [] ∨ k ≤ 1) ∧ ((xs = [] ∨ k = 1) → Q (.ref l) H) ∧ (xs ≠ [] → k ≤ 0 → NewT H [] Q)
theorem op_rep1 {X : Cx} : OpR X (binaryOp .Mult) (rRep1 X.K) := by
  intro pins s σ H x y v u Q I rx ry h
  obtain ⟨l, k, xs, rfl, rfl, hT, h1, h2, h3, qa, qb⟩ := h
  cases rx
  obtain ⟨t, rfl⟩ := ry
  obtain ⟨its, r, ⟨⟨cls, dd, data, sl⟩, ho, hc, n, hd⟩, hs⟩ := I.tuple hT
  simp only at hc hd
  subst hc hd
  have hle : its.length = xs.length := r.length.symm
  have c0 : (decide (k < -(2 ^ 63)) || decide (k ≥ 2 ^ 63)) = false := by
    rw [decide_eq_false (by omega), decide_eq_false (by omega)] <;> rfl
  have hi : its.toArray.isEmpty = decide (xs = []) := by
    cases its with
    | nil => rw [List.eq_nil_of_length_eq_zero hle.symm]; rfl
    | cons a b =>
      cases xs with
      | nil => simp at hle
      | cons c d => simp
  by_cases hz : xs = [] ∨ k = 1
  · have c1 : (its.toArray.isEmpty || k == 1) = true := by
      rw [hi]
      rcases hz with hz | hz
      · simp [hz]
      · simp [hz]
    refine wpAny_binaryOp_repeat_ref (T := "tuple") (U := "int") (by decide) ⟨_, ho, rfl⟩ (fun s' => typeIs_int s' k t) noFill_tuple_mul F.fills_int_mul F.slot_int_rmul repeat_tuple F.slot_int_index.lookup
      (call_meets F.slot_int_rmul (typeIs_int s k t) F.entry_int_rmul (F.args_int_rmul_2 _ _) (int_rmul_tuple k t l its.toArray n dd sl)
        ⟨ho, rfl, ⟨_, ho, rfl⟩, call_meets F.slot_tuple_mul ⟨_, ho, rfl⟩ F.entry_tuple_mul (F.args_tuple_mul_2 _ _) (tuple_mul1 l its.toArray n dd sl k t c0 c1) ⟨ho, ?_⟩⟩)
    exact ⟨.ref l, H, I, rfl, qa hz⟩
  · have hne : xs ≠ [] := fun e => hz (.inl e)
    have hk : k ≤ 0 := by
      have : k ≠ 1 := fun e => hz (.inr e)
      have : k ≤ 1 := by
        rcases h3 with h3 | h3
        · exact absurd h3 hne
        · exact h3
      omega
    have c1 : (its.toArray.isEmpty || k == 1) = false := by
      rw [hi, decide_eq_false hne, Bool.false_or]
      exact beq_eq_false_iff_ne.mpr (by omega)
    have c2 : (decide (k ≤ 0) || its.toArray.isEmpty) = true := by rw [decide_eq_true hk]; rfl
    refine wpAny_binaryOp_repeat_ref (T := "tuple") (U := "int") (by decide) ⟨_, ho, rfl⟩ (fun s' => typeIs_int s' k t) noFill_tuple_mul F.fills_int_mul F.slot_int_rmul repeat_tuple F.slot_int_index.lookup
      (call_meets F.slot_int_rmul (typeIs_int s k t) F.entry_int_rmul (F.args_int_rmul_2 _ _) (int_rmul_tuple k t l its.toArray n dd sl)
        ⟨ho, rfl, ⟨_, ho, rfl⟩, call_meets F.slot_tuple_mul ⟨_, ho, rfl⟩ F.entry_tuple_mul (F.args_tuple_mul_2 _ _) (tuple_mul0 l its.toArray n dd sl k t c0 c1 c2) ⟨ho, ?_⟩⟩)
    exact ft_new (tk := s.toks) (its := []) I .nil (Nat.zero_le _) (qb hne hk)
def dRep1 (_ : Hs) (d e : D) : Option Nv := match d, e with
  | .tup [], .int k => if -1000 ≤ k ∧ k ≤ 1000 then some (.v (.tup [])) else none
  | .tup (a :: as), .int k => if -1000 ≤ k ∧ k ≤ 0 then some (.v (.tup [])) else if k = 1 then some (.v (.tup (a :: as))) else none
  | _, _ => none
theorem cov_rep1 {C : Ct} : Cov2 C (rRep1 C.K) dRep1 := by
  intro H L μ h x y d e n Q hr r1 r2 hf want
  unfold dRep1 at hf
  split at hf
  · rename_i k
    split at hf
    · rename_i hl
      cases hf
      obtain ⟨p, vs, rfl, t1, q1⟩ := r1
      cases (show vs = [] from q1)
      exact ⟨p, k, [], rfl, r2, t1.sq, hl.1, hl.2, .inl rfl, fun _ => want.old ⟨p, [], rfl, t1, rfl⟩, fun z => absurd rfl z⟩
    · cases hf
  · rename_i a as k
    obtain ⟨p, vs, rfl, t1, q1⟩ := r1
    have hne : vs ≠ [] := by
      rintro rfl
      have := q1.length
      simp at this
    split at hf
    · rename_i hl
      cases hf
      exact ⟨p, k, vs, rfl, r2, t1.sq, hl.1, by omega, .inr (by omega), fun z => False.elim (by rcases z with z | z; exact hne z; omega), fun _ _ => want.tup (show RepL C μ H [] [] from rfl)⟩
    · split at hf
      · rename_i hl
        subst hl
        cases hf
        exact ⟨p, 1, vs, rfl, r2, t1.sq, by decide, by decide, .inr (by decide), fun _ => want.old ⟨p, vs, rfl, t1, q1⟩, fun _ z => absurd z (by decide)⟩
      · cases hf
  · cases hf
def okMul (i j : Int) : Bool := decide ((Builtin.Int.intBits i : Int) + (Builtin.Int.intBits j : Int) ≤ 134217728)
def dMulW : Hs → D → D → Option Nv := fun h d e => match dIntC okMul (fun i j => .int (i * j)) h d e with | some n => some n | none => (fun h d e => match dRepL h d e with | some n => some n | none => (fun h d e => match dRepT h d e with | some n => some n | none => dRep1 h d e) h d e) h d e
section
variable {X : Cx} {W : WX} {a b : Expr} {ma mb : M D} {pos : Pos}
theorem b_fdv (ha : PE X a (rd X W ma)) (hb : PE X b (rd X W mb)) : PE X (.BinOp a .FloorDiv b pos) (rd X W (mOp2 dFdv ma mb)) := e_bin op_fdivW (cov_rI (fun _ _ h => by simpa [CDivW, CPow] using h) fun _ _ => rfl) ha hb
theorem b_pow (ha : PE X a (rd X W ma)) (hb : PE X b (rd X W mb)) : PE X (.BinOp a .Pow b pos) (rd X W (mOp2 dPow ma mb)) := e_bin op_pow (cov_rI (fun _ _ h => by simpa [CDivW, CPow] using h) fun _ _ => rfl) ha hb
theorem cov_mulW {C : Ct} : Cov2 C (rI CMulX fun i j => .int (i * j)) (dIntC okMul fun i j => .int (i * j)) :=
  cov_rI (fun _ _ h => by have := of_decide_eq_true h; exact this) fun _ _ => rfl
theorem b_mulW (ha : PE X a (rd X W ma)) (hb : PE X b (rd X W mb)) : PE X (.BinOp a .Mult b pos) (rd X W (mOp2 dMulW ma mb)) := e_bin (OpR.or' op_mulX (OpR.or' op_rep (OpR.or' op_repF op_rep1))) (cov_mulW.or (cov_repL.or (cov_repT.or cov_rep1))) ha hb
end
/-! ### several names at once -/
def putL : En → List Nat → List D → Option En
  | ρ, [], [] => some ρ
  | ρ, i :: is, d :: ds => putL (ρ.set i (some d)) is ds
  | _, _, _ => none
def mPar (is : List Nat) (ms : M (List D)) : MS := mDo ms fun ds => fun ρ h => match putL ρ is ds with
  | some ρ' => some (.nx ρ' h)
  | none => none
section
variable {X : Cx} {W : WX}
theorem s_par {i j : Nat} {x y : Str} {a b : Expr} {px py pt pos : Pos} {kt k2 pt2} {ms : M (List D)} (hc : X.calm = true) (hN : X.N.Nodup) (hi : X.N[i]? = some x) (hj : X.N[j]? = some y) (hij : i ≠ j)
    (hx : X.env.scope.names.lookup x = some .local) (hy : X.env.scope.names.lookup y = some .local) (ha : PA X [a, b] (rdA X W ms))
    (hw : swappedStores [.Tuple [.Name x px, .Name y py] kt pt] (.Tuple [a, b] k2 pt2) X.env = pure (some [x, y]) := by rfl)
    (hs : swapsWithSole [.Tuple [.Name x px, .Name y py] kt pt] (.Tuple [a, b] k2 pt2) pos.line X.env = pure false := by rfl) :
    PS X (.Assign [.Tuple [.Name x px, .Name y py] kt pt] (.Tuple [a, b] k2 pt2) pos) (rdS X W (mPar [i, j] ms)) :=
  ps_imp (ps_par hc hN hi hj hij hx hy ha hw hs) fun D σ H q => rdG_imp (rdS_bind q) fun ρ L ds h1 μ1 H1 ⟨rel1, q1⟩ xs rx => by
    match ds, rx with
    | [d, e], ⟨v, r, e1, rv, u, r2, e2, ru, e3⟩ =>
      subst e3 e2 e1
      exact ⟨v, u, rfl, q1 _ μ1 H1 .refl ((rel1.set rv).set ru)⟩
    | [], _ => exact False.elim q1
    | [d], _ => exact False.elim q1
    | d :: e :: g :: r, _ => exact False.elim q1
theorem s_par3 {i j l : Nat} {x y z : Str} {a b c : Expr} {px py pz pt pos : Pos} {kt k2 pt2} {ms : M (List D)} (hc : X.calm = true) (hN : X.N.Nodup) (hi : X.N[i]? = some x) (hj : X.N[j]? = some y) (hl : X.N[l]? = some z) (hij : i ≠ j) (hil : i ≠ l) (hjl : j ≠ l)
    (hx : X.env.scope.names.lookup x = some .local) (hy : X.env.scope.names.lookup y = some .local) (hz : X.env.scope.names.lookup z = some .local) (ha : PA X [a, b, c] (rdA X W ms))
    (hw : swappedStores [.Tuple [.Name x px, .Name y py, .Name z pz] kt pt] (.Tuple [a, b, c] k2 pt2) X.env = pure (some [x, y, z]) := by rfl)
    (hs : swapsWithSole [.Tuple [.Name x px, .Name y py, .Name z pz] kt pt] (.Tuple [a, b, c] k2 pt2) pos.line X.env = pure false := by rfl) :
    PS X (.Assign [.Tuple [.Name x px, .Name y py, .Name z pz] kt pt] (.Tuple [a, b, c] k2 pt2) pos) (rdS X W (mPar [i, j, l] ms)) :=
  ps_imp (ps_par3 hc hN hi hj hl hij hil hjl hx hy hz ha hw hs) fun D σ H q => rdG_imp (rdS_bind q) fun ρ L ds h1 μ1 H1 ⟨rel1, q1⟩ xs rx => by
    match ds, rx with
    | [d, e, g], ⟨v, r, e1, rv, u, r2, e2, ru, t, r3, e3, rt, e4⟩ =>
      subst e4 e3 e2 e1
      exact ⟨v, u, t, rfl, q1 _ μ1 H1 .refl (((rel1.set rv).set ru).set rt)⟩
    | [], _ => exact False.elim q1
    | [d], _ => exact False.elim q1
    | [d, e], _ => exact False.elim q1
    | d :: e :: g :: k :: r, _ => exact False.elim q1
end
theorem gs_c {X : Cx} {e : Expr} {es : List Expr} {t : TM} {ts : TMs} {v1 v2 v : List Nat} (h1 : PG X e (rdTg X t v1)) (h2 : PGs X es (rdTgs X ts v2)) (hv : v1 ++ v2 = v := by rfl)
    (hs : (assignEach (e :: es) X.env).map (·.2) = assign e X.env :: (assignEach es X.env).map (·.2) := by rfl) : PGs X (e :: es) (rdTgs X (tsCons t ts) v) := by
  subst hv
  exact gs_cons h1 h2 hs
/-! ### the law's end -/
def spLaw (K : PySem.W.Frag) : Sp := fun vs H Q _ => ∃ (a : Addr) (ns : List Int), vs = [.ref a] ∧ ns.length ≤ 63 ∧ (∀ z ∈ ns, Builtin.Int.intBits z ≤ 1048576) ∧ TbA H ∧ SqL K H a (ns.map V.int) ∧ ∀ H', Q (.bl true) H'
def h0 : Hs := ⟨0, .nil, []⟩
/-- the script in a box -/
def hL (ns : List Int) : Hs := ⟨1, .node (some (.lst (ns.map D.int))) .nil .nil, []⟩
theorem hr0 {C : Ct} {H : Hp} (hz : Tbs.base = []) (tb : TbA H) : HR C [] [] H h0 := by
  constructor
  all_goals first | exact tb | exact ⟨List.nodup_nil, hz ▸ List.prefix_refl _⟩ | simp [h0, Hs.get, Tr.get]
theorem hrL {C : Ct} {H : Hp} {a : Addr} {ns : List Int} (hz : Tbs.base = []) (tb : TbA H) (e : H a = some (.lst (ns.map V.int))) : HR C [] [a] H (hL ns) := by
  refine ⟨rfl, rfl, ⟨by simp, hz ▸ List.nil_prefix⟩, tb, fun i b eb => ?_⟩
  have hi : i = 0 := by
    have := (List.getElem?_eq_some_iff.mp eb).1
    simp at this
    exact this
  subst hi
  simp at eb
  subst eb
  exact ⟨.lst (ns.map D.int), rfl, _, e, repL_ints ns⟩
theorem law_ok (hz : Tbs.base = []) {P : Program} {w : World} {K : PySem.W.Frag} {mg : Str → Option Value} {base : Heap} {ps : List Str} {k : Nat} {f : Addr} {fd : FuncData} {fm : FM} (F : FnOk P w K mg base (L2.CX P w) k f fd ps (spF ⟨w, K, mg⟩ 1 fm))
    (hm : ∀ ns : List Int, ns.length ≤ 63 → (∀ z ∈ ns, Builtin.Int.intBits z ≤ 1048576) → (∃ h, fm [.scr (ns.map D.int)] h0 = some (.rt (.bl true) h)) ∧ ∃ h, fm [.box 0] (hL ns) = some (.rt (.bl true) h)) : FnOk P w K mg base (L2.CX P w) k f fd ps (spLaw K) := by
  refine F.imp fun vs H Q E ⟨a, ns, ev, hl, hb, tb, hS, q⟩ => ?_
  subst ev
  obtain ⟨⟨h, e⟩, h2, e2⟩ := hm ns hl hb
  rcases hS with (hS | hS) | hS
  · refine ⟨[], [a], hL ns, [.box 0], rfl, ⟨_, _, rfl, ⟨a, rfl, rfl⟩, rfl⟩, hrL hz tb hS, ?_⟩
    rw [e2]
    intro x μ' H' g r rx
    cases (show x = V.bl true from rx)
    exact q H'
  · refine ⟨[], [], h0, [.scr (ns.map D.int)], rfl, ⟨_, _, rfl, ⟨a, _, rfl, .inl hS, repL_ints ns⟩, rfl⟩, hr0 hz tb, ?_⟩
    rw [e]
    intro x μ' H' g r rx
    cases (show x = V.bl true from rx)
    exact q H'
  · refine ⟨[], [], h0, [.scr (ns.map D.int)], rfl, ⟨_, _, rfl, ⟨a, _, rfl, .inr hS, repL_ints ns⟩, rfl⟩, hr0 hz tb, ?_⟩
    rw [e]
    intro x μ' H' g r rx
    cases (show x = V.bl true from rx)
    exact q H'
theorem cx_false {P : Program} {w : World} {outer : List PySem.Env} {H : Hp} {s : Shared} {e : Value} {s' : Shared} (h : L2.CX P w outer H s (fun _ _ _ => False) e s') : False := by
  obtain ⟨_, _, _, _, _, _, _, _, _, _, _, _, z⟩ := h
  exact z
end Rh

set_option Elab.async false
set_option linter.all false
set_option maxRecDepth 100000
set_option maxHeartbeats 2000000
set_option autoImplicit false
namespace Rh
open PySem PySem.Spec PyProof.Rows L2
variable [Tbs]
/-! ### d.setdefault(k, v), keys ints, texts, bools, None -/
section
variable {P : Program} {w : World} {a : Addr} {ku : Value}
end
section
variable {X : Cx}
end
section
variable {X : Cx} {W : WX} {o e f : Expr} {es : List Expr} {m : M D} {ms : M (List D)} {apos cpos : Pos}
end
section
variable {X : Cx}
end
section
variable {X : Cx} {W : WX} {e : Expr} {es : List Expr} {ms : M (List D)} {p pos : Pos}
end
end Rh

set_option Elab.async false
set_option linter.all false
set_option maxRecDepth 100000
set_option maxHeartbeats 2000000
set_option autoImplicit false
namespace Rh
open PySem PySem.Spec PyProof.Rows L2
variable [Tbs]
/-! ### a call that no box reaches -/
mutual
def flatD : D → Bool
  | .box _ => false
  | .tup ds => flatL ds
  | .scr ds => flatL ds
  | _ => true
def flatL : List D → Bool
  | [] => true
  | d :: ds => flatD d && flatL ds
end
section
variable {C : Ct} {μ μ' : Mu} {H : Hp}
mutual
theorem RepV.flat : ∀ (d : D) (v : V), flatD d = true → RepV C μ H d v → RepV C μ' H d v
  | .non, _, _, h => h
  | .bl _, _, _, h => h
  | .int _, _, _, h => h
  | .str _, _, _, h => h
  | .gl _, _, _, h => h
  | .ty _, _, _, h => h
  | .tup ds, _, f, ⟨a, vs, e, q, r⟩ => ⟨a, vs, e, q, RepL.flat ds vs f r⟩
  | .scr ds, _, f, ⟨a, vs, e, q, r⟩ => ⟨a, vs, e, q, RepL.flat ds vs f r⟩
  | .box n, _, f, _ => nomatch f
theorem RepL.flat : ∀ (ds : List D) (vs : List V), flatL ds = true → RepL C μ H ds vs → RepL C μ' H ds vs
  | [], _, _, h => h
  | d :: ds, _, f, ⟨v, r, e, h1, h2⟩ => by
    have f : (flatD d && flatL ds) = true := f
    rw [Bool.and_eq_true] at f
    exact ⟨v, r, e, RepV.flat d v f.1 h1, RepL.flat ds r f.2 h2⟩
end
end
def clF (f : FM) : FM := fun as h => match flatL as with
  | true => (match f as h0 with
    | some (.rt d _) => (match flatD d with
      | true => some (.rt d h)
      | false => none)
    | _ => none)
  | false => none
theorem fn_cl (hz : Tbs.base = []) {P : Program} {w : World} {K : PySem.W.Frag} {mg : Str → Option Value} {base : Heap} {ps : List Str} {k np : Nat} {f : Addr} {fd : FuncData} {fm : FM} (F : FnOk P w K mg base (L2.CX P w) k f fd ps (spF ⟨w, K, mg⟩ np fm)) :
    FnOk P w K mg base (L2.CX P w) k f fd ps (spF ⟨w, K, mg⟩ np (clF fm)) := by
  refine F.imp fun vs H Q E ⟨L, μ, h, as, hl, rl, hr, q⟩ => ?_
  unfold clF at q
  split at q
  · exact q.elim
  · rename_i e
    split at e
    · rename_i fa
      split at e
      · rename_i d' h' e2
        split at e
        · rename_i fd'
          cases e
          refine ⟨[], [], h0, as, hl, RepL.flat _ _ fa rl, hr0 hz hr.tb, ?_⟩
          rw [e2]
          intro x μ' H' g r rx
          have kb : ∀ b o, H b = some o → (∀ ps, o ≠ .tbl ps) → H' b = some o := fun b o e nt => g.keep b o e nt (by simp)
          have at_ : ∀ (i : Nat) (b : Addr), μ[i]? = some b → H' b = H b := fun i b e => by
            obtain ⟨o, _, qo⟩ := hr.ob i b e
            cases o with
            | lst ds => obtain ⟨vs, e1, _⟩ := qo; rw [e1, kb b _ e1 fun _ z => nomatch z]
            | dct nks ks vs => obtain ⟨es, e1, _⟩ := qo; rw [e1, kb b _ e1 fun _ z => nomatch z]
            | lam _ _ => exact qo.elim
            | exo _ _ => obtain ⟨ac, d, _, e1, _⟩ := qo; rw [e1, kb b _ e1 fun _ z => nomatch z]
            | ins _ _ => obtain ⟨C0, dx, vs, _, e1, _⟩ := qo; rw [e1, kb b _ e1 fun _ z => nomatch z]
          have st : Stay μ H μ H' := ⟨fun _ _ e => e, fun b xs e => kb b _ e (fun _ z => nomatch z), fun b ob u e => kb b _ e (fun _ z => nomatch z)⟩
          have g' : Go L μ H μ H' := ⟨fun i _ b e => at_ i b e, fun b o e nt _ => kb b o e nt, g.dom, ⟨[], (List.append_nil _).symm⟩, fun _ m => .inl m⟩
          have r' : HR ⟨w, K, mg⟩ L μ H' h := ⟨hr.lk, hr.len, hr.nd, r.tb, fun i b e => let ⟨o, e1, qo⟩ := hr.ob i b e; ⟨o, e1, qo.stay st (at_ i b e)⟩⟩
          exact q x μ H' g' r' (RepV.flat _ _ fd' rx)
        · cases e
      · cases e
    · cases e
  · rename_i e
    exfalso
    split at e
    · split at e
      · split at e
        · cases e
        · cases e
      · cases e
    · cases e
/-! ### tables: what can be stored -/
theorem Tr.put0_some {α : Type} (a : α) : ∀ (f : Nat) (t : Tr α) (i : Nat), i + 1 < 2 ^ f → ∃ t', Tr.put0 a f t i = some t'
  | 0, _, i, h => by simp at h
  | f + 1, .nil, i, h => by
    have h2 : 2 ^ (f + 1) = 2 * 2 ^ f := by rw [Nat.pow_succ, Nat.mul_comm]
    unfold Tr.put0
    rw [beq_dec, beq_dec]
    by_cases h0 : i = 0
    · simp [h0]
    · by_cases h1 : i % 2 = 1
      · obtain ⟨t', e⟩ := Tr.put0_some a f .nil (i / 2) (by omega)
        simp [h0, h1, e]
      · obtain ⟨t', e⟩ := Tr.put0_some a f .nil (i / 2 - 1) (by omega)
        simp [h0, h1, e]
  | f + 1, .node v l r, i, h => by
    have h2 : 2 ^ (f + 1) = 2 * 2 ^ f := by rw [Nat.pow_succ, Nat.mul_comm]
    unfold Tr.put0
    rw [beq_dec, beq_dec]
    by_cases h0 : i = 0
    · simp [h0]
    · by_cases h1 : i % 2 = 1
      · obtain ⟨t', e⟩ := Tr.put0_some a f l (i / 2) (by omega)
        simp [h0, h1, e]
      · obtain ⟨t', e⟩ := Tr.put0_some a f r (i / 2 - 1) (by omega)
        simp [h0, h1, e]
theorem Tr.put_some {α : Type} (a : α) (f : Nat) : ∀ (t : Tr α) (i : Nat), i + 1 < 2 ^ f → ∃ t', Tr.put a f t i = some t'
  | .nil, i, h => by
    rw [Tr.put_nil]
    by_cases h0 : i = 0
    · exact ⟨_, if_pos h0⟩
    · rw [if_neg h0]; exact Tr.put0_some a f .nil i h
  | .node v l r, i, h => by
    rw [Tr.put_node]
    by_cases h0 : i = 0
    · exact ⟨_, if_pos h0⟩
    · rw [if_neg h0]
      by_cases h1 : i % 2 = 1
      · obtain ⟨t, e⟩ := Tr.put_some a f l (i / 2) (by omega)
        rw [if_pos h1, e]; exact ⟨_, rfl⟩
      · obtain ⟨t, e⟩ := Tr.put_some a f r (i / 2 - 1) (by omega)
        rw [if_neg h1, e]; exact ⟨_, rfl⟩
theorem Hs.new_some (h : Hs) (o : O) (hn : h.n < 1000000) : ∃ h', h.new o = some h' := by
  obtain ⟨t', e⟩ := Tr.put_some o 40 h.t h.n (by omega)
  exact ⟨_, by unfold Hs.new; rw [e]⟩
theorem Hs.set_some (h : Hs) (o : O) (i : Nat) (hi : i < 1000000) (hl : i ∉ h.lk) : ∃ h', h.set i o = some h' := by
  obtain ⟨t', e⟩ := Tr.put_some o 40 h.t i (by omega)
  refine ⟨⟨h.n, t', h.lk⟩, ?_⟩
  unfold Hs.set
  have : (h.lk.all fun j => !Nat.beq j i) = true := List.all_eq_true.mpr fun j hj => by
    rw [beq_dec, decide_eq_false (fun q : j = i => hl (q ▸ hj))]; rfl
  rw [this, e]
/-! ### the script's cells -/
def mCellBody : MS := (mSeq (mSet 5 (mOp2 dMod (mOpA dInt1 (mCons (mVar 3) mNil)) (mVar 1)))
    (mSeq (mAsg (tSub (mVar 2) (mVar 5)) (mOp2 dAdd (mOp2 dIx (mVar 2) (mVar 5)) (mOp2 dMulW (mVar 4) (mOp2 dAdd (mVar 3) (mCon (.int 2))))))
    mNx))
def mCells : MS := (mSeq (mSet 2 (mOrV (mOpA dListA (mCons (mSl (mVar 0) (mPure none) (mPart (mVar 1))) mNil)) (mLst (mCons (mCon (.int 0)) mNil))))
    (mSeq (mFor (mEnum 0 (mSl (mVar 0) (mPart (mVar 1)) (mPart (mCon (.int 63))))) (tTup 2 (tsCons (tName 3) (tsCons (tName 4) tsNil))) mCellBody)
    (mSeq (mRet (mVar 2))
    mNx)))
theorem dIntC_int {c : Int → Int → Bool} {g : Int → Int → D} {h : Hs} {i j : Int} (hc : c i j = true) : dIntC c g h (.int i) (.int j) = some (.v (g i j)) := if_pos hc
theorem okMul_of {i j : Int} (h : (Builtin.Int.intBits i : Int) + (Builtin.Int.intBits j : Int) ≤ 134217728) : okMul i j = true := decide_eq_true h
theorem bits_small {z c : Int} (hz : Builtin.Int.intBits z ≤ 1048576) (h0 : 0 ≤ c) (h1 : c ≤ 1000) : ((Builtin.Int.intBits z : Int) + (Builtin.Int.intBits c : Int) ≤ 134217728) := by
  have := PyProof.Rows.intBits_le (show c.natAbs < 2 ^ 10 by omega)
  omega
theorem dMod_int {h : Hs} {i j : Int} (hj : 0 < j) : dMod h (.int i) (.int j) = some (.v (.int (i % j))) := dIntC_int (c := fun _ j => decide (0 < j)) (g := fun i j => .int (i % j)) (decide_eq_true hj)
theorem dIx_lst {h : Hs} {b : Nat} {ds : List D} {i : Int} {x : D} (hg : h.get b = some (.lst ds)) (ha : atI ds i = some x) : dIx h (.box b) (.int i) = some (.v x) := by
  have hl : lstD h (.box b) = some ds := by simp only [lstD, hg]
  unfold dIx dIxT dIxL
  simp only [hl, ha, Option.map_some]
theorem dMulW_int {h : Hs} {i j : Int} (hc : okMul i j = true) : dMulW h (.int i) (.int j) = some (.v (.int (i * j))) := by
  have e0 : dIntC okMul (fun i j => .int (i * j)) h (.int i) (.int j) = some (.v (.int (i * j))) := dIntC_int hc
  unfold dMulW
  simp only [e0]
theorem dAdd_int {h : Hs} {i j : Int} : dAdd h (.int i) (.int j) = some (.v (.int (i + j))) := by
  have e0 : dInt (fun i j => .int (i + j)) h (.int i) (.int j) = some (.v (.int (i + j))) := dIntC_int rfl
  unfold dAdd
  simp only [e0]
theorem putD_lst {h h' : Hs} {b : Nat} {ds : List D} {i : Int} {j : Nat} {x : D} (hg : h.get b = some (.lst ds)) (hi : ixN ds.length i = some j) (e : h.set b (.lst (ds.set j x)) = some h') : putD h (.box b) (.int i) x = some h' := by
  unfold putD
  simp only [hg, hi, e]
section
variable {ρ ρ1 ρ' : En} {h h1 h2 h3 : Hs} {a b m mo mi : M D} {d x y : D}
theorem mSeq_nx {s t : MS} (e : s ρ h = some (.nx ρ1 h1)) : mSeq s t ρ h = t ρ1 h1 := by unfold mSeq; rw [e]
theorem mSet_ok {i : Nat} (e : m ρ h = some (.ok d h1)) : mSet i m ρ h = some (.nx (ρ.set i (some d)) h1) := by unfold mSet mDo; rw [e]
theorem mOp2_ok {f : Hs → D → D → Option Nv} (e : a ρ h = some (.ok x h1)) (e2 : b ρ h1 = some (.ok y h2)) (e3 : f h2 x y = some (.v d)) : mOp2 f a b ρ h = some (.ok d h2) := by
  unfold mOp2 mBind; rw [e]; dsimp only; rw [e2]; dsimp only; rw [e3]; rfl
theorem mVar_ok {i : Nat} (e : ρ[i]? = some (some d)) (nl : d ≠ .lm := by first | exact fun z => nomatch z | assumption) : mVar i ρ h = some (.ok d h) := by unfold mVar; rw [e]; exact okS_ok nl
theorem mOpA1_ok {f : Hs → List D → Option Nv} (e : a ρ h = some (.ok x h1)) (e3 : f h1 [x] = some (.v d)) : mOpA f (mCons a mNil) ρ h = some (.ok d h1) := by
  unfold mOpA mCons mNil mBind mPure; dsimp only; rw [e]; dsimp only; rw [e3]; rfl
theorem mAsg_ok {t : TM} (e : m ρ h = some (.ok d h1)) (e2 : t d ρ h1 = some (ρ', h2)) : mAsg t m ρ h = some (.nx ρ' h2) := by unfold mAsg mDo; rw [e]; dsimp only; rw [e2]
theorem tSub_ok (e : mo ρ h = some (.ok x h1)) (e2 : mi ρ h1 = some (.ok y h2)) (e3 : putD h2 x y d = some h3) : tSub mo mi d ρ h = some (ρ, h3) := by unfold tSub; rw [e]; dsimp only; rw [e2]; dsimp only; rw [e3]
end
end Rh

set_option Elab.async false
set_option linter.all false
set_option maxRecDepth 100000
set_option maxHeartbeats 2000000
set_option autoImplicit false
namespace Rh
open PySem PySem.Spec PyProof.Rows L2
variable [Tbs]
/-! ### words for a law's last steps -/
def isTrue : Option FR → Bool
  | some (.rt (.bl b) _) => b
  | _ => false
theorem isTrue_ex {o : Option FR} (h : isTrue o = true) : ∃ k, o = some (.rt (.bl true) k) := by
  unfold isTrue at h
  split at h
  · subst h; exact ⟨_, rfl⟩
  · cases h
section
variable {ρ ρ1 ρ' : En} {h h1 h2 h3 : Hs} {a b m mo mi : M D} {d x y : D} {f : FM} {ms : M (List D)}
theorem clF_true {as : List D} (ha : flatL as = true) (e : isTrue (f as h0) = true) (h : Hs) : clF f as h = some (.rt (.bl true) h) := by
  obtain ⟨k, e⟩ := isTrue_ex e
  unfold clF
  rw [ha]
  dsimp only
  rw [e]
  rfl
theorem mCall_ok {ds : List D} (e : ms ρ h = some (.ok ds h1)) (e2 : f ds h1 = some (.rt d h2)) : mCall f ms ρ h = some (.ok d h2) := by unfold mCall mBind; rw [e]; dsimp only; rw [e2]
theorem mNil_ok : mNil ρ h = some (.ok [] h) := rfl
theorem mCons_ok {ds : List D} (e : m ρ h = some (.ok d h1)) (e2 : ms ρ h1 = some (.ok ds h2)) : mCons m ms ρ h = some (.ok (d :: ds) h2) := by unfold mCons mBind mPure; rw [e]; dsimp only; rw [e2]
theorem mCall0_true (e : isTrue (f [] h0) = true) : mCall (clF f) mNil ρ h = some (.ok (.bl true) h) := mCall_ok mNil_ok (clF_true rfl e h)
theorem mTruth_ok {k : Bool} (e : m ρ h = some (.ok d h1)) (e2 : truthD h1 d = some k) : mTruth m ρ h = some (.ok k h1) := by unfold mTruth mBind; rw [e]; dsimp only; rw [e2]
theorem mNot_ok {c : M Bool} {k : Bool} (e : c ρ h = some (.ok k h1)) : mNot c ρ h = some (.ok (!k) h1) := by unfold mNot mBind mPure; rw [e]
theorem mB_ok {k : Bool} (e : m ρ h = some (.ok (.bl k) h1)) : mB m ρ h = some (.ok k h1) := by unfold mB mBind; rw [e]
theorem mIf_ok {c : M Bool} {k : Bool} (e : c ρ h = some (.ok k h1)) : mIf c a b ρ h = (if k = true then a else b) ρ h1 := by unfold mIf mBind; rw [e]
theorem mIfS_ok {c : M Bool} {k : Bool} {s t : MS} (e : c ρ h = some (.ok k h1)) : mIfS c s t ρ h = (if k = true then s else t) ρ h1 := by unfold mIfS mDo; rw [e]
theorem mRet_ok (e : m ρ h = some (.ok d h1)) : mRet m ρ h = some (.rt d h1) := by unfold mRet mDo; rw [e]
theorem mSeq_rt {s t : MS} (e : s ρ h = some (.rt d h1)) : mSeq s t ρ h = some (.rt d h1) := by unfold mSeq; rw [e]
theorem mCon_ok : mCon d ρ h = some (.ok d h) := rfl
theorem runDef_rt {n : Nat} {s : MS} {as : List D} (e : s (envOf n as) h = some (.rt d h1)) : runDef n s as h = some (.rt d h1) := by unfold runDef; rw [e]
theorem atI_zero {x : D} {xs : List D} : atI (x :: xs) (0 : Int) = some x := by
  unfold atI ixN
  rw [if_pos (Int.le_refl 0), if_pos (by simp only [List.length_cons]; omega)]
  rfl
/-- if not f(): return False -/
theorem guard_ok (e : isTrue (f [] h0) = true) {s : MS} : mIfS (mNot (mTruth (mCall (clF f) mNil))) s mNx ρ h = some (.nx ρ h) := mIfS_ok (mNot_ok (mTruth_ok (mCall0_true e) rfl))
end
end Rh

set_option Elab.async false
set_option linter.all false
set_option maxRecDepth 100000
set_option maxHeartbeats 2000000
set_option autoImplicit false
namespace Rh
open PySem PySem.Spec PyProof.Rows L2
variable [Tbs]
/-! ### sorted(..) of tuples of ints, all equally long -/
def tupOf (r : List Int) : D := .tup (r.map .int)
section
variable {C : Ct} {μ : Mu} {H : Hp}
theorem repT {r : List Int} {x : V} (h : RepV C μ H (tupOf r) x) : TupI C.K H x r := by
  obtain ⟨a, vs, rfl, t, q⟩ := (show RepV C μ H (.tup (r.map .int)) x from h)
  have e : vs = r.map V.int := by
    clear t h
    induction r generalizing vs with
    | nil => exact q
    | cons i r ih =>
      obtain ⟨v, t, rfl, h1, h2⟩ := q
      rw [ih t h2, show v = V.int i from h1]; rfl
  exact ⟨a, rfl, by rw [← e]; exact t.sq⟩
end
section
variable {X : Cx} {W : WX} {e : Expr} {es : List Expr} {ms : M (List D)} {pos p : Pos}
end
end Rh

set_option Elab.async false
set_option linter.all false
set_option maxRecDepth 100000
set_option maxHeartbeats 2000000
set_option autoImplicit false
namespace Rh
open PySem PySem.Spec PyProof.Rows L2
variable [Tbs]
/-! ### what the module's top has named -/
section
variable {X : Cx} {W : WX} {x : Str} {pos : Pos}
/-- a def's name as a value -/
theorem e_globF {a : Addr} (hg : Gl X x) (hm : X.mg x = some (.ref a)) (hd : (x == ("__debug__" : Str)) = false := by decide) : PE X (.Name x pos) (rd X W (mCon (.gl x))) :=
  pe_imp (pe_glob (v := .ref a) hg hm rfl hd) fun _ _ _ q => rd_con (d := .gl x) (fun _ _ => ⟨a, rfl, hm⟩) q
end
/-! ### {k: v} -/
section
variable {P : Program} {w : World} {A : Around} {E : Value → Shared → Prop} {s : Shared} {a : Addr} {ep : Nat} {k : NestedKey} {ku : Value}
end
section
variable {X : Cx}
end
section
variable {X : Cx} {W : WX} {k v : Expr} {mk mv : M D} {pos : Pos}
end
end Rh

set_option Elab.async false
set_option linter.all false
set_option maxRecDepth 100000
set_option maxHeartbeats 2000000
set_option autoImplicit false
namespace Rh
open PySem PySem.Spec PyProof.Rows L2
variable [Tbs]
section
variable {X : Cx}
end
section
variable {X : Cx} {W : WX} {o e f : Expr} {es : List Expr} {m : M D} {ms : M (List D)} {apos cpos : Pos}
end
end Rh

set_option Elab.async false
set_option linter.all false
set_option maxRecDepth 100000
set_option maxHeartbeats 2000000
set_option autoImplicit false
namespace Rh
open PySem PySem.Spec PyProof.Rows L2
variable [Tbs]
section
variable {X : Cx} {W : WX} {o e f : Expr} {es : List Expr} {m : M D} {ms : M (List D)} {apos cpos : Pos}
end
section
variable {X : Cx} {W : WX} {tg : Expr}
end
end Rh

set_option Elab.async false
set_option linter.all false
set_option maxRecDepth 100000
set_option maxHeartbeats 2000000
set_option autoImplicit false
namespace Rh
open PySem PySem.Spec PyProof.Rows L2
variable [Tbs]
section
variable {X : Cx} {W : WX}
end
section
variable {X : Cx} {W : WX}
end
end Rh

set_option Elab.async false
set_option linter.all false
set_option maxRecDepth 100000
set_option maxHeartbeats 2000000
set_option autoImplicit false
namespace Rh
open PySem PySem.Spec PyProof.Rows L2
variable [Tbs]
/-! ### [f, g, ..][i](x, ..): a def that a list holds is called -/
def mCallV (np : Nat) (tb : List (Str × FM)) (mf : M D) (ms : M (List D)) : M D := mBind mf fun d => match d with
  | .gl x => (match tb.lookup x with
    | some f => mBind ms fun as => fun _ h => if as.length = np then (match f as h with
      | none => none
      | some (.rt d h') => some (.ok d h')
      | some (.ex c fs h') => some (.ex c fs h')) else none
    | none => fun _ _ => none)
  | _ => fun _ _ => none
def TbOk (X : Cx) (k np : Nat) (tb : List (Str × FM)) : Prop := ∀ x f, tb.lookup x = some f → ∃ k' fa fd ps, k' ≤ k ∧ X.mg x = some (.ref fa) ∧ PySem.W.keepIn X.K (.ref fa) = true ∧ FnOk X.prog X.w X.K X.mg X.base (L2.CX X.prog X.w) k' fa fd ps (spF (ctX X) np f) ∧ L2.Binds X.K fd ps []
section
variable {X : Cx} {W : WX} {k np : Nat}
theorem tb_nil : TbOk X k np [] := fun x f h => nomatch h
theorem tb_cons {k' : Nat} {x : Str} {f : FM} {tb : List (Str × FM)} {fa : Addr} {fd : FuncData} {ps : List Str} (hl : k' ≤ k) (F : FnOk X.prog X.w X.K X.mg X.base (L2.CX X.prog X.w) k' fa fd ps (spF (ctX X) np f)) (hm : X.mg x = some (.ref fa)) (hk : PySem.W.keepIn X.K (.ref fa) = true) (hb : L2.Binds X.K fd ps []) (r : TbOk X k np tb) : TbOk X k np ((x, f) :: tb) := fun y g h => by
  rw [List.lookup_cons] at h
  split at h
  · rename_i e
    cases h
    rw [eq_of_beq e]
    exact ⟨k', fa, fd, ps, hl, hm, hk, F, hb⟩
  · exact r y g h
theorem e_callV {tb : List (Str × FM)} {o i e : Expr} {es : List Expr} {p1 pos : Pos} {mf : M D} {ms : M (List D)} (hr : Room k X.A) (tk : Takes X W) (ht : TbOk X k np tb) (hf : PE X (.Subscript o i p1) (rd X W mf)) (ha : PA X (e :: es) (rdA X W ms))
    (he : starEach (e :: es) X.env = (false, eval e X.env) :: starEach es X.env := by rfl) (hpl : (backTo pos (starEach es X.env)).any (·.1) = false := by rfl) :
    PE X (.Call (.Subscript o i p1) (e :: es) [] pos) (rd X W (mCallV np tb mf ms)) := by
  refine ⟨fun pins s σ H Q I q => ?_⟩
  have q2 : rd X W mf σ H fun x H1 => ∃ (k' : Nat) (f : FM) (fa : Addr) (fd : FuncData) (ps : List Str), k' ≤ k ∧ x = .ref fa ∧ PySem.W.keepIn X.K (.ref fa) = true ∧ FnOk X.prog X.w X.K X.mg X.base (L2.CX X.prog X.w) k' fa fd ps (spF (ctX X) np f) ∧ L2.Binds X.K fd ps [] ∧
      rdA X W ms σ H1 fun vs H2 => spF (ctX X) np f vs H2 Q (fun cls d H' => W cls d σ H') := by
    obtain ⟨ρ, L, μ, h, rel, q⟩ := q
    refine ⟨ρ, L, μ, h, rel, (q.bind rel).imp fun d h1 μ1 H1 g1 _ ⟨_, rel1, q1⟩ x rx => ?_⟩
    cases d with
    | gl y =>
      dsimp only at q1
      cases el : tb.lookup y with
      | none => rw [el] at q1; exact q1.none
      | some f =>
        rw [el] at q1
        obtain ⟨k', fa, fd, ps, hkl, hm, hk, F, hb⟩ := ht y f el
        obtain ⟨a, rfl, hma⟩ := rx
        have hma : X.mg y = some (.ref a) := hma
        rw [hm] at hma
        cases hma
        refine ⟨k', f, fa, fd, ps, hkl, rfl, hk, F, hb, ρ, L, μ1, h1, rel1, (q1.bind rel1).imp fun as h2 μ2 H2 g2 _ ⟨_, rel2, q2⟩ vs rs => ?_⟩
        split at q2
        · rename_i hl
          exact sp_of hl rel2.hr rs q2
        · exact q2.none
    | _ => exact q1.none
  rw [show eval (.Call (.Subscript o i p1) (e :: es) [] pos) X.env = (do
    callWith pos (← eval (.Subscript o i p1) X.env) [] (backTo pos (starEach (e :: es) X.env)) (backToKw pos (keywordEach [] X.env))) from rfl]
  refine wpAny_bind (thn (hf.run pins s σ H _ I q2) fun fv s1 ⟨x, H1, I1, r1, k', f, fa, fd, ps, hkl, ex, hk, F, hb, q3⟩ => ?_)
  subst ex
  cases r1
  refine PySem.W.callWith_K (h₀ := X.base) I1.ok.mod.kin hk (thn (ha.run pos pins s1 σ H1 _ I1 q3) fun us s2 ⟨vs, H2, I2, r2, q4⟩ => ⟨I2.kIn, ?_⟩) he hpl
  refine run_fnSD (us := us) (E := fun σ cls d H' => W cls d σ H') F (hr.mono hkl) hb .nil (passes_at tk σ) I2 r2 ?_
  rw [List.append_nil]
  exact q4
end
end Rh

set_option Elab.async false
set_option linter.all false
set_option maxRecDepth 100000
set_option maxHeartbeats 2000000
set_option autoImplicit false
namespace Rh
open PySem PySem.Spec PyProof.Rows L2
variable [Tbs]
/-! ### list comprehensions with two fors -/
section
variable {X : Cx} {W : WX} {L0 lks1 : List Nat} {μ1 μ4 : Mu} {H1 H4 : Hp} {h1 h3 hf : Hs} {ρ1 : En} {σ2 : L2.St} {l : Addr} {vacc0 : List V} {acc0 ds1 es : List D} {t1 : TM} {conds1 : M Bool} {elt : M D} {vs1 : List Nat} {J1 : It} {Nx : Hp → Prop}
theorem inner_lc (r1 : HR (ctX X) L0 μ1 H1 h1) (hl : H1 l = none) (g0 : Go L0 μ1 H1 μ4 H4) (rel4 : Rel (ctX X) L0 ρ1 σ2 μ4 H4 h3) (cov : Cover (ctX X) J1 ds1 lks1 μ4 H4) (hD : H4 l = some (.lst vacc0)) (nl : l ∉ μ4) (ra : RepL (ctX X) μ4 H4 acc0 vacc0)
    (hsz : (acc0 ++ es).length ≤ 1000000) (eL : loopC t1 conds1 elt (wipeE ρ1 vs1) ds1 (relk (lks1 ++ L0) h3) = some (es, hf))
    (kN : ∀ μ' H' vacc', Go L0 μ1 H1 μ' H' → HR (ctX X) L0 μ' H' (relk L0 hf) → Stay μ4 H4 μ' H' → H' l = some (.lst vacc') → l ∉ μ' → RepL (ctX X) μ' H' (acc0 ++ es) vacc' → Nx H') :
    ∃ W1 : Nat → Nat → Hp → Prop, (∃ m, W1 0 m H4) ∧ ∀ j k H, W1 j k H → (J1.stop j H ∧ Nx H) ∨ (J1.go j H ∧ ∃ Nx1 : Hp → Prop, (∀ H', Nx1 H' → ∃ k', k' < k ∧ W1 (j + 1) k' H') ∧ ∀ x H', J1.yld j H x H' →
      rdTg X t1 vs1 x (wipe σ2 vs1) H' fun σ3 H5 => wipe σ3 vs1 = wipe σ2 vs1 ∧ rdT X WF conds1 σ3 H5 fun b H6 => if b = true then rd X WF elt σ3 H6 fun y H7 => ∃ acc, H7 l = some (.lst acc) ∧ acc.length < sizeLine ∧ Nx1 (L2.upd H7 l (.lst (acc ++ [y]))) else Nx1 H6) := by
  refine ⟨fun j m Hc => m = ds1.length - j ∧ j ≤ ds1.length ∧ ∃ μi hi acc vacc rest, Go L0 μ1 H1 μi Hc ∧ Still lks1 μ4 H4 μi Hc ∧ HR (ctX X) (lks1 ++ L0) μi Hc hi ∧ Hc l = some (.lst vacc) ∧ l ∉ μi ∧ RepL (ctX X) μi Hc acc vacc ∧ loopC t1 conds1 elt (wipeE ρ1 vs1) (ds1.drop j) hi = some (rest, hf) ∧ acc ++ rest = acc0 ++ es,
    ⟨ds1.length, by simp, Nat.zero_le _, μ4, relk (lks1 ++ L0) h3, acc0, vacc0, es, g0, ⟨.refl, fun _ _ _ _ => rfl⟩, rel4.hr.relk, hD, nl, ra, eL, rfl⟩, ?_⟩
  rintro j m Hc ⟨rfl, hj, μi, hh, acc, vacc, rest, gi, st, ri, hLc, nl, racc, el, ea⟩
  have hva : vacc.length ≤ 1000000 := by
    rw [racc.length]
    have := congrArg List.length ea
    rw [List.length_append] at this
    omega
  by_cases hlt : j < ds1.length
  · refine .inr ⟨cov.go j μi Hc st hlt, fun H' => j + 1 ≤ ds1.length ∧ ∃ μi hi acc vacc rest, Go L0 μ1 H1 μi H' ∧ Still lks1 μ4 H4 μi H' ∧ HR (ctX X) (lks1 ++ L0) μi H' hi ∧ H' l = some (.lst vacc) ∧ l ∉ μi ∧ RepL (ctX X) μi H' acc vacc ∧ loopC t1 conds1 elt (wipeE ρ1 vs1) (ds1.drop (j + 1)) hi = some (rest, hf) ∧ acc ++ rest = acc0 ++ es,
      fun H' ⟨q1, q2⟩ => ⟨ds1.length - (j + 1), by omega, rfl, q1, q2⟩, fun x H' y => ?_⟩
    have hd : ds1[j]? = some ds1[j] := List.getElem?_eq_getElem hlt
    obtain ⟨sm, dm, rv⟩ := cov.yld j μi Hc x H' _ st y hd
    have g2 : Go (lks1 ++ L0) μi Hc μi H' := .same ri sm dm
    have r2 := ri.same sm
    have st2 : Still lks1 μ4 H4 μi H' := ⟨st.st.trans (g2.stay ri), fun n m a e => (g2.lk n (List.mem_append_left _ m) a (st.st.b n a e)).trans (st.lk n m a e)⟩
    rw [List.drop_eq_getElem_cons hlt] at el
    unfold loopC at el
    cases et : turnC t1 conds1 elt (wipeE ρ1 vs1) ds1[j] hh with
    | none => rw [et] at el; cases el
    | some p =>
      obtain ⟨o, hn⟩ := p
      simp only [et] at el
      cases el2 : loopC t1 conds1 elt (wipeE ρ1 vs1) (ds1.drop (j + 1)) hn with
      | none => simp only [el2] at el; cases el
      | some p =>
        obtain ⟨rest2, hf2⟩ := p
        simp only [el2] at el
        cases el
        unfold turnC at et
        cases e1 : t1 ds1[j] (wipeE ρ1 vs1) hh with
        | none => rw [e1] at et; cases et
        | some p =>
          obtain ⟨ρ2, h2⟩ := p
          simp only [e1] at et
          have rw0 : Rel (ctX X) (lks1 ++ L0) ρ1 σ2 μi H' hh := ⟨rel4.len, fun i d e => let ⟨v, a, b⟩ := rel4.val i d e; ⟨v, a, b.stay st2.st⟩, r2⟩
          have relw : Rel (ctX X) (lks1 ++ L0) (wipeE ρ1 vs1) (wipe σ2 vs1) μi H' hh := rw0.wipe (vs := vs1)
          refine ⟨ds1[j], wipeE ρ1 vs1, lks1 ++ L0, μi, hh, ρ2, h2, relw, rv, e1, fun σ3 μ3 H3 g3 rel3 b3 => ⟨b3.wipe, ρ2, lks1 ++ L0, μ3, h2, rel3, ?_⟩⟩
          have g13 : Go L0 μ1 H1 μ3 H3 := gi.trans (g2.trans g3).less
          have hl' : H' l = some (.lst vacc) := sm _ _ hLc
          have hl3 : H3 l = some (.lst vacc) := g3.keep l _ hl' (fun _ z => nomatch z) nl
          have nl3 : l ∉ μ3 := (gi.trans g2.less).not_mem r1 hl nl g3.less hl'
          have ra3 : RepL (ctX X) μ3 H3 acc vacc := (racc.go ri g2).go r2 g3
          have st3 : Still lks1 μ4 H4 μ3 H3 := ⟨st2.st.trans (g3.stay r2), fun n m a e => (g3.lk n (List.mem_append_left _ m) a (st2.st.b n a e)).trans (st2.lk n m a e)⟩
          cases e2 : conds1 ρ2 h2 with
          | none => simp only [e2] at et; cases et
          | some p =>
            cases p with
            | ex c fs ρ3 => simp only [e2] at et; cases et
            | ok c h3' =>
              intro μ4' H4' g4 r4
              have hl4 : H4' l = some (.lst vacc) := g4.keep l _ hl3 (fun _ z => nomatch z) nl3
              have nl4 : l ∉ μ4' := g13.not_mem r1 hl nl3 g4.less hl3
              have ra4 := ra3.go rel3.hr g4
              have st4 : Still lks1 μ4 H4 μ4' H4' := ⟨st3.st.trans (g4.stay rel3.hr), fun n m a e => (g4.lk n (List.mem_append_left _ m) a (st3.st.b n a e)).trans (st3.lk n m a e)⟩
              cases c with
              | false =>
                simp only [e2] at et
                cases et
                refine iteF ?_
                exact ⟨hlt, μ4', _, acc, vacc, rest2, g13.trans g4.less, st4, r4, hl4, nl4, ra4, el2, ea⟩
              | true =>
                refine iteT ?_
                simp only [e2] at et
                refine ⟨ρ2, lks1 ++ L0, μ4', h3', rel3.go g4 r4, ?_⟩
                cases e3 : elt ρ2 h3' with
                | none => simp only [e3] at et; cases et
                | some p =>
                  cases p with
                  | ex c fs ρ4 => simp only [e3] at et; cases et
                  | ok xd h4 =>
                    simp only [e3] at et
                    cases et
                    intro μ5 H5 g5 r5 v rv
                    have hl5 : H5 l = some (.lst vacc) := g5.keep l _ hl4 (fun _ z => nomatch z) nl4
                    have nl5 : l ∉ μ5 := (g13.trans g4.less).not_mem r1 hl nl4 g5.less hl4
                    have ra5 := ra4.go r4 g5
                    have st5 : Still lks1 μ4 H4 μ5 H5 := ⟨st4.st.trans (g5.stay r4), fun n m a e => (g5.lk n (List.mem_append_left _ m) a (st4.st.b n a e)).trans (st4.lk n m a e)⟩
                    obtain ⟨r6, st6⟩ := r5.side (o := .lst (vacc ++ [v])) hl5 nl5 (fun xs e => nomatch e) (fun ob u e => nomatch e)
                    have st7 : Still lks1 μ4 H4 μ5 (L2.upd H5 l (.lst (vacc ++ [v]))) := ⟨st5.st.trans st6, fun n m a e => (upd_ne (show a ≠ l from fun z => nl5 (by rw [← z]; exact List.mem_of_getElem? (st5.st.b n a e)))).trans (st5.lk n m a e)⟩
                    have hlt9 : vacc.length < 1000000 := by
                      rw [racc.length]
                      have h9 := congrArg List.length ea
                      rw [List.length_append] at h9
                      have h8 : (consO (some xd) rest2).length = rest2.length + 1 := rfl
                      omega
                    refine ⟨vacc, hl5, small6' (by omega), hlt, μ5, _, acc ++ [xd], vacc ++ [v], rest2, ((g13.trans g4.less).trans g5.less).side r1 hl, st7, r6, upd_same, nl5, (ra5.stay st6).append ⟨v, [], rfl, rv.stay st6, rfl⟩, el2, ?_⟩
                    rw [List.append_assoc]
                    exact ea
  · have e : j = ds1.length := by omega
    subst e
    rw [List.drop_length] at el
    unfold loopC at el
    cases el
    rw [List.append_nil] at ea
    subst ea
    exact .inl ⟨cov.stop _ μi Hc st rfl, kN μi Hc vacc gi ri.relk st.st hLc nl racc⟩
end
def turnO (t : TM) (conds : M Bool) (mi1 : M (List D × List Nat)) (t1 : TM) (conds1 : M Bool) (elt : M D) (vs1 : List Nat) (ρ : En) (d : D) (h : Hs) : Option (List D × Hs) := match t d ρ h with
  | none => none
  | some (ρ1, h1) => match conds ρ1 h1 with
    | some (.ok false h2) => some ([], h2)
    | some (.ok true h2) => (match mi1 ρ1 h2 with
      | some (.ok p h3) => (match loopC t1 conds1 elt (wipeE ρ1 vs1) p.1 (relk (p.2 ++ h3.lk) h3) with
        | some (es, h4) => some (es, relk h3.lk h4)
        | none => none)
      | _ => none)
    | _ => none
def loopC2 (t : TM) (conds : M Bool) (mi1 : M (List D × List Nat)) (t1 : TM) (conds1 : M Bool) (elt : M D) (vs1 : List Nat) (ρ : En) : List D → Hs → Option (List D × Hs)
  | [], h => some ([], h)
  | d :: ds, h => match turnO t conds mi1 t1 conds1 elt vs1 ρ d h with
    | none => none
    | some (os, h1) => match loopC2 t conds mi1 t1 conds1 elt vs1 ρ ds h1 with
      | none => none
      | some (es, h2) => some (os ++ es, h2)
def mLc2 (mi : M (List D × List Nat)) (t : TM) (conds : M Bool) (mi1 : M (List D × List Nat)) (t1 : TM) (conds1 : M Bool) (elt : M D) (vs vs1 : List Nat) : M D := mBind mi fun p => fun ρ h => match loopC2 t conds mi1 t1 conds1 elt vs1 (wipeE ρ vs) p.1 (relk (p.2 ++ h.lk) h) with
  | some (es, h') => if es.length ≤ 1000000 then (Nv.n (.lst es)).lift (relk h.lk h') else none
  | none => none
section
variable {X : Cx} {W : WX} {σ : L2.St} {H : Hp} {Q : VK}
theorem rd_lc2 {mi mi1 : M (List D × List Nat)} {t t1 : TM} {conds conds1 : M Bool} {elt : M D} {vs vs1 : List Nat} (q : rd X W (mLc2 mi t conds mi1 t1 conds1 elt vs vs1) σ H Q) :
    tLc2 (rdI X W mi) (rdTg X t vs) (rdT X WF conds) (rdI X WF mi1) (rdTg X t1 vs1) (rdT X WF conds1) (rd X WF elt) vs vs1 σ H Q := by
  refine rdG_imp (rdG_bind q) fun ρ L p h1 μ1 H1 ⟨rel1, q1⟩ J cov l hl => ?_
  obtain ⟨ds, lks⟩ := p
  dsimp only at q1 cov
  rw [rel1.hr.lk] at q1
  cases eL : loopC2 t conds mi1 t1 conds1 elt vs1 (wipeE ρ vs) ds (relk (lks ++ L) h1) with
  | none => simp only [eL] at q1; exact q1.none
  | some p =>
    obtain ⟨es, hf⟩ := p
    simp only [eL] at q1
    split at q1
    rotate_left
    · exact q1.none
    rename_i hlen
    have rel2 := rel1.relk (L' := lks ++ L)
    refine ⟨fun i m Hc => m = ds.length - i ∧ i ≤ ds.length ∧ ∃ μi hi acc vacc rest, Go (lks ++ L) μ1 H1 μi Hc ∧ HR (ctX X) (lks ++ L) μi Hc hi ∧ Hc l = some (.lst vacc) ∧ l ∉ μi ∧ RepL (ctX X) μi Hc acc vacc ∧ loopC2 t conds mi1 t1 conds1 elt vs1 (wipeE ρ vs) (ds.drop i) hi = some (rest, hf) ∧ acc ++ rest = es,
      ⟨ds.length, by simp, Nat.zero_le _, μ1, relk (lks ++ L) h1, [], [], es, ?_, ?_, upd_same, ?_, rfl, eL, rfl⟩, ?_⟩
    · obtain ⟨s1, d1⟩ := same_new (o := .lst []) hl
      exact .same rel2.hr s1 d1
    · exact rel2.hr.same (same_new (o := .lst []) hl).1
    · intro m; obtain ⟨u, e, _⟩ := rel2.hr.mut m; rw [hl] at e; cases e
    rintro i m Hc ⟨rfl, hi, μi, hh, acc, vacc, rest, gi, ri, hLc, nl, racc, el, ea⟩
    have st : Still lks μ1 H1 μi Hc := ⟨gi.stay rel2.hr, fun n m => gi.lk n (List.mem_append_left _ m)⟩
    by_cases hlt : i < ds.length
    · refine .inr ⟨cov.go i μi Hc st hlt, fun H' => i + 1 ≤ ds.length ∧ ∃ μi hi acc vacc rest, Go (lks ++ L) μ1 H1 μi H' ∧ HR (ctX X) (lks ++ L) μi H' hi ∧ H' l = some (.lst vacc) ∧ l ∉ μi ∧ RepL (ctX X) μi H' acc vacc ∧ loopC2 t conds mi1 t1 conds1 elt vs1 (wipeE ρ vs) (ds.drop (i + 1)) hi = some (rest, hf) ∧ acc ++ rest = es,
        fun H' ⟨q1, q2⟩ => ⟨ds.length - (i + 1), by omega, rfl, q1, q2⟩, fun x H' y => ?_⟩
      have hd : ds[i]? = some ds[i] := List.getElem?_eq_getElem hlt
      obtain ⟨sm, dm, rv⟩ := cov.yld i μi Hc x H' _ st y hd
      have g2 : Go (lks ++ L) μi Hc μi H' := .same ri sm dm
      have r2 := ri.same sm
      rw [List.drop_eq_getElem_cons hlt] at el
      unfold loopC2 at el
      cases et : turnO t conds mi1 t1 conds1 elt vs1 (wipeE ρ vs) ds[i] hh with
      | none => rw [et] at el; cases el
      | some p =>
        obtain ⟨os, hn⟩ := p
        simp only [et] at el
        cases el2 : loopC2 t conds mi1 t1 conds1 elt vs1 (wipeE ρ vs) (ds.drop (i + 1)) hn with
        | none => simp only [el2] at el; cases el
        | some p =>
          obtain ⟨rest2, hf2⟩ := p
          simp only [el2] at el
          cases el
          unfold turnO at et
          cases e1 : t ds[i] (wipeE ρ vs) hh with
          | none => rw [e1] at et; cases et
          | some p =>
            obtain ⟨ρ2, h2⟩ := p
            simp only [e1] at et
            have relw : Rel (ctX X) (lks ++ L) (wipeE ρ vs) (wipe σ vs) μi H' hh := (rel2.wipe (vs := vs)).go (gi.trans g2) r2
            refine ⟨ds[i], wipeE ρ vs, lks ++ L, μi, hh, ρ2, h2, relw, rv, e1, fun σ2 μ3 H3 g3 rel3 b3 => ⟨b3.wipe, ρ2, lks ++ L, μ3, h2, rel3, ?_⟩⟩
            have g13 := gi.trans (g2.trans g3)
            have hl' : H' l = some (.lst vacc) := sm _ _ hLc
            have hl3 : H3 l = some (.lst vacc) := g3.keep l _ hl' (fun _ z => nomatch z) nl
            have nl3 : l ∉ μ3 := (gi.trans g2).not_mem rel2.hr hl nl g3 hl'
            have ra3 : RepL (ctX X) μ3 H3 acc vacc := (racc.go ri g2).go r2 g3
            cases e2 : conds ρ2 h2 with
            | none => simp only [e2] at et; cases et
            | some p =>
              cases p with
              | ex c fs ρ3 => simp only [e2] at et; cases et
              | ok c h3 =>
                intro μ4 H4 g4 r4
                have hl4 : H4 l = some (.lst vacc) := g4.keep l _ hl3 (fun _ z => nomatch z) nl3
                have nl4 : l ∉ μ4 := g13.not_mem rel2.hr hl nl3 g4 hl3
                have ra4 := ra3.go rel3.hr g4
                cases c with
                | false =>
                  simp only [e2] at et
                  cases et
                  refine iteF ?_
                  exact ⟨hlt, μ4, _, acc, vacc, rest2, g13.trans g4, r4, hl4, nl4, ra4, el2, ea⟩
                | true =>
                  refine iteT ?_
                  simp only [e2] at et
                  refine ⟨ρ2, lks ++ L, μ4, h3, rel3.go g4 r4, ?_⟩
                  cases e3 : mi1 ρ2 h3 with
                  | none => simp only [e3] at et; cases et
                  | some p =>
                    cases p with
                    | ex c fs ρ4 => simp only [e3] at et; cases et
                    | ok p1 h4 =>
                      simp only [e3] at et
                      intro μ5 H5 g5 r5 J1 cov1
                      have hl5 : H5 l = some (.lst vacc) := g5.keep l _ hl4 (fun _ z => nomatch z) nl4
                      have nl5 : l ∉ μ5 := (g13.trans g4).not_mem rel2.hr hl nl4 g5 hl4
                      have ra5 := ra4.go r4 g5
                      cases e4 : loopC t1 conds1 elt (wipeE ρ2 vs1) p1.1 (relk (p1.2 ++ h4.lk) h4) with
                      | none => simp only [e4] at et; cases et
                      | some p =>
                        obtain ⟨os', h5⟩ := p
                        simp only [e4] at et
                        cases et
                        have rel5 : Rel (ctX X) (lks ++ L) ρ2 σ2 μ5 H5 h4 := (rel3.go g4 r4).go g5 r5
                        rw [r5.lk] at e4
                        rw [r5.lk] at el2
                        refine inner_lc rel2.hr hl ((g13.trans g4).trans g5) rel5 cov1 hl5 nl5 ra5 ?_ e4 fun μ' H'' vacc' g' r' st' hl6 nl6 ra6 => ⟨hlt, μ', _, acc ++ os, vacc', rest2, g', r', hl6, nl6, ra6, el2, by rw [List.append_assoc]; exact ea⟩
                        have h9 := congrArg List.length ea
                        rw [List.length_append, List.length_append] at h9
                        rw [List.length_append]
                        omega
    · have e : i = ds.length := by omega
      subst e
      rw [List.drop_length] at el
      unfold loopC2 at el
      cases el
      rw [List.append_nil] at ea
      subst ea
      refine .inl ⟨cov.stop _ μi Hc st rfl, ?_⟩
      have ri' := ri.relk (L' := L)
      unfold Nv.lift at q1
      dsimp only at q1
      cases en : (relk L hf).new (.lst acc) with
      | none => simp only [en] at q1; exact q1.none
      | some hz =>
        simp only [en] at q1
        have ra := ri'.adopt nl (o := .lst acc) ⟨vacc, hLc, racc.stay (stay_more fun _ _ e => e)⟩ en
        refine q1 (μi ++ [l]) Hc (gi.less.adopt hl) ra (.ref l) ⟨l, rfl, ?_⟩
        rw [← ri'.len, List.getElem?_append_right (Nat.le_refl _)]
        simp
end
section
variable {X : Cx} {W : WX}
theorem g_more {tg : Expr} {t : TM} {tv vs : List Nat} (h : PG X tg (rdTg X t tv)) (hs : ∀ i ∈ tv, i ∈ vs) : PG X tg (rdTg X t vs) :=
  pg_imp h fun v σ H Q ⟨d, ρ, L, μ, h, ρ', h', rel, rv, e, k⟩ => ⟨d, ρ, L, μ, h, ρ', h', rel, rv, e, fun σ' μ' H' g r b => k σ' μ' H' g r ⟨b.1, fun i hi => b.2 i fun m => hi (hs i m)⟩⟩
theorem e_lc2 {elt tg iter tg1 iter1 : Expr} {ifs ifs1 : List Expr} {scope : Scope} {own : List (Str × Nat)} {pos : Pos} {mi mi1 : M (List D × List Nat)} {t t1 : TM} {mc mc1 : M Bool} {me : M D} {vs vs0 vs1 : List Nat} (hc : X.calm = true) (hN : X.N.Nodup) (ok : BlkOk X.N X.env.scope scope own) (hvs : own.map (fun x : Str × Nat => x.2) = vs) (hv : ∀ i ∈ vs1, i ∈ vs) (hv0 : ∀ i ∈ vs0, i ∈ vs)
    (hi : PI X tg iter (rdI X W mi))
    (hg : ∀ (s : Shared) (H : Hp) (C : Addr) (cl : List (Str × Addr)) (fp : List Addr), PG (X.blk s H scope (compEnvC scope cl C X.env) fp) tg (rdTg (X.blk s H scope (compEnvC scope cl C X.env) fp) t vs0))
    (ht : ∀ (s : Shared) (H : Hp) (C : Addr) (cl : List (Str × Addr)) (fp : List Addr), PTs (X.blk s H scope (compEnvC scope cl C X.env) fp) ifs (rdT (X.blk s H scope (compEnvC scope cl C X.env) fp) WF mc))
    (hi1 : ∀ (s : Shared) (H : Hp) (C : Addr) (cl : List (Str × Addr)) (fp : List Addr), PI (X.blk s H scope (compEnvC scope cl C X.env) fp) tg1 iter1 (rdI (X.blk s H scope (compEnvC scope cl C X.env) fp) WF mi1))
    (hg1 : ∀ (s : Shared) (H : Hp) (C : Addr) (cl : List (Str × Addr)) (fp : List Addr), PG (X.blk s H scope (compEnvC scope cl C X.env) fp) tg1 (rdTg (X.blk s H scope (compEnvC scope cl C X.env) fp) t1 vs1))
    (ht1 : ∀ (s : Shared) (H : Hp) (C : Addr) (cl : List (Str × Addr)) (fp : List Addr), PTs (X.blk s H scope (compEnvC scope cl C X.env) fp) ifs1 (rdT (X.blk s H scope (compEnvC scope cl C X.env) fp) WF mc1))
    (he : ∀ (s : Shared) (H : Hp) (C : Addr) (cl : List (Str × Addr)) (fp : List Addr), PE (X.blk s H scope (compEnvC scope cl C X.env) fp) elt (rd (X.blk s H scope (compEnvC scope cl C X.env) fp) WF me))
    (hs : ∀ x, foldedSetIterable iter X.env x = pure x := by intro _; rfl) (hs1 : ∀ env x, foldedSetIterable iter1 env x = pure x := by intro _ _; rfl) :
    PE X (.ListComp elt [⟨tg, iter, ifs, 0⟩, ⟨tg1, iter1, ifs1, 0⟩] scope pos) (rd X W (mLc2 mi t mc mi1 t1 mc1 me vs vs1)) := by
  subst hvs
  exact pe_imp (pe_lc2 (g := rdTg X t (own.map (fun x : Str × Nat => x.2))) (tt := rdT X WF mc) (wi1 := rdI X WF mi1) (g1 := rdTg X t1 vs1) (tt1 := rdT X WF mc1) (te := rd X WF me) hc hN hi ok hv (fun s H C cl fp => g_more (hg s H C cl fp) hv0) ht hi1 hg1 ht1 he hs hs1) fun σ H Q h => rd_lc2 h
end
end Rh

set_option Elab.async false
set_option linter.all false
set_option maxRecDepth 100000
set_option maxHeartbeats 2000000
set_option autoImplicit false
namespace Rh
open PySem PySem.Spec PyProof.Rows L2
variable [Tbs]
/-! ### name = {k: v for ..} on one line -/
section
variable {X : Cx} {W : WX}
end
end Rh

set_option Elab.async false
set_option linter.all false
set_option maxRecDepth 100000
set_option maxHeartbeats 2000000
set_option autoImplicit false
namespace Rh
open PySem PySem.Spec PyProof.Rows L2
/-! ### a frame with captured names and one parameter -/
/-- what the new frame L holds -/
structure NewF (sc : Scope) (p : Str) (u : Value) (L : Addr) (s : Shared) (g : Heap) : Prop where
  old : ∀ b o, s.heap.get? b = some o → g.get? b = some o
  ns : ∃ m, g.Ns L m ∧ (sc.names.lookup p = some .local → m p = some u)
  ces : ∀ n c, (n, c) ∈ cellsFrom (L + 1) sc.names [] → L < c ∧ ∃ x, g.IsCell c x
  apart : (cellsFrom (L + 1) sc.names []).Pairwise fun x y => x.2 ≠ y.2
  own : sc.names.lookup p = some .cell → ∃ c, (cellsFrom (L + 1) sc.names []).lookup p = some c ∧ g.IsCell c (some u)
/-! ### the names of a lambda with one parameter -/
structure LamN (sc inner : Scope) (p : Str) : Prop where
  kind : inner.kind = .function
  co : inner.isCoroutine = false
  gen : inner.isGenerator = false
  own : ∀ y ∈ inner.names, y.2 = .local ∨ y.2 = .cell → y.1 = p
  par : inner.names.lookup p = some .local ∨ inner.names.lookup p = some .cell
  free : ∀ y ∈ inner.names, y.2 = .free → sc.names.lookup y.1 = some .cell ∨ sc.names.lookup y.1 = some .free
section
variable {X : Cx} {pins : List (Addr × Obj)} {σ : L2.St} {H HZ : Hp} {s s1 : Shared}
theorem LamN.has {sc : Scope} {p : Str} (L : LamN X.env.scope sc p) (ok : X.Ok) : ∀ y ∈ sc.names, y.2 = .free → ∃ c, X.env.cells.lookup y.1 = some c := fun y hy e => ok.has y.1 (L.free y hy e)
end
section
variable [Tbs]
end
theorem Rel.heap {τ : Tbs} {C : Ct} {L : List Nat} {ρ : En} {σ : L2.St} {μ : Mu} {H : Hp} {h : Hs} (r : @Rel τ C L ρ σ μ H h) : @HR C τ L μ H h := r.hr
section
variable {X : Cx} {pins : List (Addr × Obj)} {σ : L2.St} {H : Hp} {s : Shared}
end
end Rh

set_option Elab.async false
set_option linter.all false
set_option maxRecDepth 100000
set_option maxHeartbeats 2000000
set_option autoImplicit false
namespace Rh
open PySem PySem.Spec PyProof.Rows L2
section
variable {C : Ct} {L : List Nat} {μ : Mu} {H H' : Hp} {h : Hs}
theorem RepV.slot {τ : Tbs} {d : D} {v : V} (q : RepV C μ H d v) : @RepS τ C μ H d v := q.s
end
section
variable {X : Cx}
end
end Rh

set_option Elab.async false
set_option linter.all false
set_option maxRecDepth 100000
set_option maxHeartbeats 2000000
set_option autoImplicit false
namespace Rh
open PySem PySem.Spec PyProof.Rows L2
variable [Tbs]
/-! ### d == e of dicts with plain keys -/
def dHits : List (NestedKey × PyData) → List NestedKey → List PyData → Bool
  | [], _, _ => true
  | (k, p) :: r, ks, qs => match idxK ks k with
    | none => false
    | some i => match qs[i]? with
      | some q => PyData.eqv p q && dHits r ks qs
      | none => false
def rEqDct (C : Ct) (neg : Bool) : R2 := fun x y H Q => ∃ (μ : Mu) (a b : Addr) (n1 n2 : List NestedKey) (k1 v1 k2 v2 : List D) (ps qs : List PyData), x = .ref a ∧ y = .ref b ∧ ObR C μ H a (.dct n1 k1 v1) ∧ ObR C μ H b (.dct n2 k2 v2) ∧ n1.all leafK = true ∧ n2.all leafK = true ∧
  (∀ vs, RepL C μ H v1 vs → DpAll C.K H vs ps) ∧ (∀ vs, RepL C μ H v2 vs → DpAll C.K H vs qs) ∧ ps.all SeqAt.shaped = true ∧ qs.all SeqAt.shaped = true ∧
  Q (.bl (if neg = true then !(n1.length == n2.length && dHits (n1.zip ps) n2 qs) else (n1.length == n2.length && dHits (n1.zip ps) n2 qs))) H
section
variable {X : Cx} {pins : List (Addr × Obj)} {σ : L2.St} {H : Hp} {s : Shared} {μ : Mu}
theorem kl_of (I : L2.Inv X pins σ H s) {nks : List NestedKey} {ks : List D} {es : List (NestedKey × V × V)} {rs : List Ent} (hn : es.map (·.1) = nks) (hk : keysD ks = some nks) (rk : RepL (ctX X) μ H ks (es.map (·.2.1))) (p : Paired EntR es rs) (l : nks.all leafK = true) : KL rs := by
  subst hn
  have vs : Vals (es.map (·.2.1)) (rs.map (·.2.1)) := by
    clear hk rk l
    induction p with
    | nil => exact .nil
    | cons h _ ih => exact .cons h.2.1 ih
  have n2 := nesteds_of I ks _ _ _ rk hk vs
  rw [← paired_keys p] at n2 l
  clear vs rk hk p
  induction rs with
  | nil => exact fun _ h => nomatch h
  | cons r rs ih =>
    cases n2 with
    | cons q1 q2 =>
      rw [List.map_cons, List.all_cons, Bool.and_eq_true] at l
      intro r' hr
      rcases List.mem_cons.mp hr with rfl | hr
      · exact leaf_of q1 l.1
      · exact ih l.2 q2 r' hr
theorem vals_at {es : List (NestedKey × V × V)} {rs : List Ent} (p : Paired EntR es rs) : Vals (es.map (·.2.2)) (rs.map (·.2.2)) := by
  induction p with
  | nil => exact .nil
  | cons h _ ih => exact .cons h.2.2 ih
/-- the values, as data -/
theorem reads_each (I : L2.Inv X pins σ H s) : ∀ {vs : List V} {us : List Value} {ps : List PyData}, DpAll X.K H vs ps → Vals vs us → ∀ (i : Nat) (p : PyData), ps[i]? = some p → ∃ u as, us[i]? = some u ∧ Reads s.heap u p as
  | _, _, _, .nil, _, i, p, e => by simp at e
  | _, _, _, .cons h hs, .cons r rs, 0, p, e => by
    simp at e
    subst e
    obtain ⟨as, q⟩ := Dp.reads I _ _ _ h r
    exact ⟨_, as, rfl, q⟩
  | _, _, _, .cons h hs, .cons r rs, i + 1, p, e => by
    obtain ⟨u, as, a, b⟩ := reads_each I hs rs i p (by simpa using e)
    exact ⟨u, as, by simpa using a, b⟩
theorem dpAll_len {K : PySem.W.Frag} {H : Hp} : ∀ {vs : List V} {ps : List PyData}, DpAll K H vs ps → ps.length = vs.length
  | _, _, .nil => rfl
  | _, _, .cons _ h => by rw [List.length_cons, List.length_cons, dpAll_len h]
theorem hits_of {A : Around} {r2 : List Ent} {qs : List PyData} (l2 : KL r2) (hu : A.in1.units + 64 < cLine) (hq : ∀ (i : Nat) (q : PyData), qs[i]? = some q → ∃ u as, (r2.map (·.2.2))[i]? = some u ∧ Reads s.heap u q as) (ql : qs.length = r2.length) (sq : qs.all SeqAt.shaped = true) :
    ∀ (r1 : List Ent) (ps : List PyData), KL r1 → ps.length = r1.length → ps.all SeqAt.shaped = true → (∀ (i : Nat) (p : PyData), ps[i]? = some p → ∃ u as, (r1.map (·.2.2))[i]? = some u ∧ Reads s.heap u p as) →
      PySem.W.KeqHits A.in1 s (r2.map lv) (r1.map lv) (dHits ((r1.map (·.1)).zip ps) (r2.map (·.1)) qs)
  | [], _, _, _, _, _ => .nil
  | r :: r1, [], _, e, _, _ => by simp at e
  | r :: r1, p :: ps, l1, e, sp, hp => by
    rw [List.all_cons, Bool.and_eq_true] at sp
    obtain ⟨kr, vr⟩ := key_toLeaf l1 List.mem_cons_self
    have at_ : valueAt (r2.map lv) (toLeaf r.1) = getR r2 r.1 := by rw [at_lv l2, kr]
    have rest := hits_of l2 hu hq ql sq r1 ps (fun x hx => l1 x (List.mem_cons_of_mem _ hx)) (by simpa using e) sp.2 fun i q hi => by
      obtain ⟨u, as, a, b⟩ := hp (i + 1) q (by simpa using hi)
      exact ⟨u, as, by simpa using a, b⟩
    show PySem.W.KeqHits A.in1 s (r2.map lv) ((toLeaf r.1, r.2.2) :: r1.map lv) (dHits ((r.1, p) :: (r1.map (·.1)).zip ps) (r2.map (·.1)) qs)
    unfold dHits
    cases ei : idxK (r2.map (·.1)) r.1 with
    | none =>
      refine .miss ?_
      rw [at_]
      unfold getR
      rw [ei]; rfl
    | some i =>
      have hi : i < r2.length := by
        have h : List.findIdx? (fun x => decide (x = r.1)) (r2.map (·.1)) = some i := ei
        obtain ⟨h, _⟩ := List.findIdx?_eq_some_iff_getElem.mp h
        simpa using h
      obtain ⟨q, hq'⟩ : ∃ q, qs[i]? = some q := ⟨qs[i]'(by omega), List.getElem?_eq_getElem _⟩
      obtain ⟨y, as, ey, ry⟩ := hq i q hq'
      obtain ⟨v, bs, ev, rv⟩ := hp 0 p rfl
      have ev : v = r.2.2 := by simpa using ev.symm
      subst ev
      simp only [hq']
      refine .hit (y := y) ?_ (PySem.W.keq_at rv ry sp.1 (List.all_eq_true.mp sq q (List.mem_of_getElem? hq')) hu) rest
      rw [at_]
      unfold getR
      rw [ei]
      rw [List.getElem?_map] at ey
      exact ey
theorem op_eqDct (hu : X.A.units + 65 < cLine) : OpR X (compareOp .Eq) (rEqDct (ctX X) false) := by
  intro pins s σ H x y v u Q I rx ry h
  obtain ⟨μ, a, b, n1, n2, k1, v1, k2, v2, ps, qs, rfl, rfl, ⟨es1, e1, hn1, hk1, rk1, rv1⟩, ⟨es2, e2, hn2, hk2, rk2, rv2⟩, l1, l2, d1, d2, s1, s2, q⟩ := h
  cases rx
  cases ry
  obtain ⟨r1, x1, p1⟩ := dict_raw I e1
  obtain ⟨r2, x2, p2⟩ := dict_raw I e2
  have K1 := kl_of I hn1 hk1 rk1 p1 l1
  have K2 := kl_of I hn2 hk2 rk2 p2 l2
  have D1 := d1 _ rv1
  have D2 := d2 _ rv2
  have L1 : ps.length = r1.length := by rw [dpAll_len D1, ← Paired.length p1]; simp
  have L2 : qs.length = r2.length := by rw [dpAll_len D2, ← Paired.length p2]; simp
  have hits := hits_of (s := s) (A := X.A) K2 (by show X.A.units + 1 + 64 < _; omega) (reads_each I D2 (vals_at p2)) L2 s2 r1 ps K1 L1 s1 (reads_each I D1 (vals_at p1))
  rw [paired_keys p1, paired_keys p2, hn1, hn2] at hits
  refine PySem.W.keq_eq x1.sys x2.sys (x1.leaf K1) (x2.leaf K2) (by omega) (fun _ => hits) ⟨.bl _, H, I, rfl, ?_⟩
  rw [List.length_map, List.length_map, ← Paired.length p1, ← Paired.length p2]
  rw [← hn1, ← hn2, List.length_map, List.length_map, hn1, hn2] at q
  exact q
theorem op_neDct (hu : X.A.units + 65 < cLine) : OpR X (compareOp .NotEq) (rEqDct (ctX X) true) := by
  intro pins s σ H x y v u Q I rx ry h
  obtain ⟨μ, a, b, n1, n2, k1, v1, k2, v2, ps, qs, rfl, rfl, ⟨es1, e1, hn1, hk1, rk1, rv1⟩, ⟨es2, e2, hn2, hk2, rk2, rv2⟩, l1, l2, d1, d2, s1, s2, q⟩ := h
  cases rx
  cases ry
  obtain ⟨r1, x1, p1⟩ := dict_raw I e1
  obtain ⟨r2, x2, p2⟩ := dict_raw I e2
  have K1 := kl_of I hn1 hk1 rk1 p1 l1
  have K2 := kl_of I hn2 hk2 rk2 p2 l2
  have D1 := d1 _ rv1
  have D2 := d2 _ rv2
  have L1 : ps.length = r1.length := by rw [dpAll_len D1, ← Paired.length p1]; simp
  have L2 : qs.length = r2.length := by rw [dpAll_len D2, ← Paired.length p2]; simp
  have hits := hits_of (s := s) (A := X.A) K2 (by show X.A.units + 1 + 64 < _; omega) (reads_each I D2 (vals_at p2)) L2 s2 r1 ps K1 L1 s1 (reads_each I D1 (vals_at p1))
  rw [paired_keys p1, paired_keys p2, hn1, hn2] at hits
  refine PySem.W.keq_ne x1.sys x2.sys (x1.leaf K1) (x2.leaf K2) (by omega) (fun _ => hits) ⟨.bl _, H, I, rfl, ?_⟩
  rw [List.length_map, List.length_map, ← Paired.length p1, ← Paired.length p2]
  rw [← hn1, ← hn2, List.length_map, List.length_map, hn1, hn2] at q
  exact q
end
def dEqDct (neg : Bool) (h : Hs) (d e : D) : Option Nv := match d, e with
  | .box i, .box j => (match h.get i, h.get j with
    | some (.dct n1 _ v1), some (.dct n2 _ v2) => (match mapO (toPy h 40) v1, mapO (toPy h 40) v2 with
      | some ps, some qs => (match n1.all leafK && n2.all leafK && ps.all SeqAt.shaped && qs.all SeqAt.shaped with
        | true => some (.v (.bl (if neg = true then !(n1.length == n2.length && dHits (n1.zip ps) n2 qs) else (n1.length == n2.length && dHits (n1.zip ps) n2 qs))))
        | false => none)
      | _, _ => none)
    | _, _ => none)
  | _, _ => none
section
variable {C : Ct}
theorem cov_eqDct {neg : Bool} : Cov2 C (rEqDct C neg) (dEqDct neg) := by
  intro H L μ h x y d e n Q hr r1 r2 hf want
  unfold dEqDct at hf
  split at hf
  · rename_i i j
    split at hf
    · rename_i n1 k1 v1 n2 k2 v2 g1 g2
      split at hf
      · rename_i ps qs m1 m2
        split at hf
        · rename_i ok
          cases hf
          simp only [Bool.and_eq_true] at ok
          obtain ⟨⟨⟨l1, l2⟩, s1⟩, s2⟩ := ok
          obtain ⟨a, rfl, _, o1⟩ := hr.dctO r1 g1
          obtain ⟨b, rfl, _, o2⟩ := hr.dctO r2 g2
          exact ⟨μ, a, b, n1, n2, k1, v1, k2, v2, ps, qs, rfl, rfl, o1, o2, l1, l2, fun vs rv => mapO_dp (toPy_dp hr 40) rv m1, fun vs rv => mapO_dp (toPy_dp hr 40) rv m2, s1, s2, want.old rfl⟩
        · cases hf
      · cases hf
    · cases hf
  · cases hf
end
def dEqA (neg : Bool) : Hs → D → D → Option Nv := fun h d e => match dEq neg h d e with | some n => some n | none => dEqDct neg h d e
section
variable {X : Cx} {k : Nat}
theorem w_eqA (hr : Room k X.A) : CmpW X .Eq (dEqA false) := ⟨_, OpR.or' (op_eqD (hu_of4 hr)) (op_eqDct (hu_of hr)), cov_eq.or cov_eqDct⟩
theorem w_neA (hr : Room k X.A) : CmpW X .NotEq (dEqA true) := ⟨_, OpR.or' (op_neD (hu_of4 hr)) (op_neDct (hu_of hr)), cov_ne.or cov_eqDct⟩
end
end Rh

set_option Elab.async false
set_option linter.all false
set_option maxRecDepth 100000
set_option maxHeartbeats 2000000
set_option autoImplicit false
namespace Rh
open PySem PySem.Spec PyProof.Rows L2
variable [Tbs]
/-! ### a dict's entry stored by a comprehension -/
section
variable {P : Program} {w : World} {A : Around} {E : Value → Shared → Prop} {s : Shared} {a : Addr} {ep : Nat} {rs : List Ent} {k : NestedKey} {ku vu : Value} {Q : Unit → Shared → Prop}
end
/-! ### dict comprehensions, any keys, keys that come twice -/
section
variable {X : Cx}
end
end Rh

set_option Elab.async false
set_option linter.all false
set_option maxRecDepth 100000
set_option maxHeartbeats 2000000
set_option autoImplicit false
namespace Rh
open PySem PySem.Spec PyProof.Rows L2
variable [Tbs]
section
variable {X : Cx} {W : WX}
end
section
variable {X : Cx} {W : WX} {σ : L2.St} {H : Hp} {Q : VK}
end
end Rh

set_option Elab.async false
set_option linter.all false
set_option maxRecDepth 100000
set_option maxHeartbeats 2000000
set_option autoImplicit false
namespace Rh
open PySem PySem.Spec PyProof.Rows L2
/-! ### a zip whose tuples are kept -/
section
variable {prog : Program} {w : World} {A : Around} {E : Value → Shared → Prop} {s : Shared} {z TI TO T i1 i2 : Addr} {fp1 fp2 : List Addr} {n1 n2 i : Nat} {P1 P2 : Nat → Value → Prop} {St1 St2 : Nat → Heap → Prop} {f : Bool} {oT : Obj}
end
/-- the tuples that were handed out -/
structure ZGot (xs ys : List Value) (lo : Addr) (h : Heap) (as : List Addr) : Prop where
  rise : as.Pairwise (· < ·)
  above : ∀ a ∈ as, lo < a
  tup : ∀ (j : Nat) (a : Addr), as[j]? = some a → ∃ x y, xs[j]? = some x ∧ ys[j]? = some y ∧ IsTupOf2 h a x y
theorem ZGot.there {xs ys : List Value} {lo : Addr} {h : Heap} {as : List Addr} (g : ZGot xs ys lo h as) {a : Addr} (m : a ∈ as) : a < h.objs.size := by
  obtain ⟨j, e⟩ := List.mem_iff_getElem?.mp m
  obtain ⟨_, _, _, _, q⟩ := g.tup j a e
  exact Heap.lt_size q
section
variable {prog : Program} {w : World} {A : Around} {s : Shared} {R : Result → Shared → Prop} {z TI TO i1 i2 S lo : Addr} {fp1 fp2 : List Addr} {xs ys : List Value} {St1 St2 : Nat → Heap → Prop}
end
section
variable {prog : Program} {w : World} {A : Around} {E : Value → Shared → Prop} {s : Shared} {R : Result → Shared → Prop} {z TI TO i1 i2 S : Addr} {fp1 fp2 : List Addr} {xs ys : List Value} {St1 St2 : Nat → Heap → Prop} {ta tb : Value}
end
section
variable {prog : Program} {w : World} {A : Around} {E : Value → Shared → Prop} {s : Shared} {z TI TO i1 i2 : Addr} {fp1 fp2 : List Addr} {xs ys : List Value} {St1 St2 : Nat → Heap → Prop} {ta tb : Value}
end
end Rh

set_option Elab.async false
set_option linter.all false
set_option maxRecDepth 100000
set_option maxHeartbeats 2000000
set_option autoImplicit false
namespace Rh
open PySem PySem.Spec PyProof.Rows L2
section
variable {X : Cx}
/-- the list l of the pairs as, of xs and ys -/
structure ZMade (H1 H' : Hp) (l : Addr) (as : List Addr) (xs ys : List V) : Prop where
  old : ∀ b o, H1 b = some o → H' b = some o
  dom : ∀ b, H' b = none → H1 b = none
  new : H1 l = none
  lst : H' l = some (.lst (as.map V.ref))
  len : as.length = min xs.length ys.length
  tup : ∀ (j : Nat) (t : Addr), as[j]? = some t → ∃ x y o, xs[j]? = some x ∧ ys[j]? = some y ∧ H' t = some (.frz o (.tup [x, y])) ∧ o.dict = none
end
section
variable [Tbs] {X : Cx} {W : WX}
end
end Rh

set_option Elab.async false
set_option linter.all false
set_option maxRecDepth 100000
set_option maxHeartbeats 2000000
set_option autoImplicit false
namespace Rh
open PySem PySem.Spec PyProof.Rows L2
/-! ### 0 if len(script) == 0 else int(abs(script[0])) % m -/
def IsScr (h : Hs) (sc : D) (ns : List Int) : Prop := sc = .scr (ns.map .int) ∨ ∃ b0, sc = .box b0 ∧ h.get b0 = some (.lst (ns.map .int))
theorem IsScr.nl {h : Hs} {sc : D} {ns : List Int} (s : IsScr h sc ns) : sc ≠ .lm := by
  rcases s with rfl | ⟨_, rfl, _⟩ <;> exact fun z => nomatch z
theorem IsScr.lst {h : Hs} {sc : D} {ns : List Int} (s : IsScr h sc ns) : lstD h sc = some (ns.map .int) := by
  rcases s with rfl | ⟨b, rfl, e⟩
  · rfl
  · unfold lstD; simp only [e]
theorem IsScr.len {h : Hs} {sc : D} {ns : List Int} (s : IsScr h sc ns) : dLenA h [sc] = some (.v (.int ns.length)) := by
  have e : dLen h [sc] = some (.v (.int ns.length)) := by
    unfold dLen
    have q : seqD h sc = some (ns.map .int) := by
      rcases s with rfl | ⟨b, rfl, e⟩
      · rfl
      · unfold seqD lstD; simp only [e]
    simp only [q, Option.map_some, List.length_map]
  unfold dLenA
  simp only [e]
theorem IsScr.ix [Tbs] {h : Hs} {sc : D} {z : Int} {ns : List Int} (s : IsScr h sc (z :: ns)) : dIx h sc (.int 0) = some (.v (.int z)) := by
  have e1 : dIxT h sc (.int 0) = none := by rcases s with rfl | ⟨b, rfl, e⟩ <;> rfl
  have e2 : dIxL h sc (.int 0) = some (.v (.int z)) := by
    unfold dIxL
    have q : lstD h sc = some (D.int z :: ns.map .int) := s.lst
    simp only [q]
    rw [atI_zero]; rfl
  unfold dIx
  simp only [e1, e2]
section
variable [Tbs]
end
end Rh

set_option Elab.async false
set_option linter.all false
set_option maxRecDepth 100000
set_option maxHeartbeats 2000000
set_option autoImplicit false
namespace Rh
open PySem PySem.Spec PyProof.Rows L2 PpSet
/-! ### set comprehensions, whatever the members -/
abbrev setObj0 (w : World) : Obj := { cls := .type "set", dict := none, data := .set #[] 0 (.fresh 0 0 (!w.params.followText "set-order")) }
/-- what a set comprehension asks: D, the new set; stp: what adding asks -/
def tScG (ini : Addr → HO) (stp : Addr → V → Hp → (Hp → Prop) → Prop) (wi : TI) (g : TG) (tt : TT) (te : TE) (vs : List Nat) : TE := fun σ H Q => wi σ H fun J H1 => ∀ D, H1 D = none → ∃ Wi : Nat → Nat → Hp → Prop, (∃ m, Wi 0 m (upd H1 D (ini D))) ∧
  ∀ i m Hc, Wi i m Hc → (J.stop i Hc ∧ Q (.ref D) Hc) ∨ (J.go i Hc ∧ ∃ Nx : Hp → Prop, (∀ H', Nx H' → ∃ m', m' < m ∧ Wi (i + 1) m' H') ∧
    ∀ x H', J.yld i Hc x H' → g x (wipe σ vs) H' fun σ2 H2 => wipe σ2 vs = wipe σ vs ∧ tt σ2 H2 fun b H3 => if b = true then (te σ2 H3 fun y H4 => stp D y H4 Nx) else Nx H3)
section
variable {X : Cx}
theorem scg_core {ini : Addr → HO} {stp : Addr → V → Hp → (Hp → Prop) → Prop} {elt tg iter : Expr} {ifs : List Expr} {scope : Scope} {own : List (Str × Nat)} {pos pos' : Pos} {wi : TI} {g : TG} {tt : TT} {te : TE} {use : Option (Value → Sem Unit)} {Qf : Value → Shared → Prop} {pins : List (Addr × Obj)} {s : Shared} {σ : L2.St} {H : Hp} {Q : VK}
    (hini : ∀ (H : Hp) (h : Heap), ObjOk X.prog X.w H (h.push (setObj0 X.w)) h.objs.size (ini h.objs.size))
    (hstp : ∀ (s0 : Shared) (H0 : Hp) (sc : Scope) (env : PySem.Env) (fp : List Addr) (pins : List (Addr × Obj)) (σ : L2.St) (H : Hp) (s : Shared) (D : Addr) (y : V) (u : Value) (Nx : Hp → Prop) (Q : Value → Shared → Prop) (E : Value → Shared → Prop), L2.Inv (X.blk s0 H0 sc env fp) pins σ H s → stp D y H Nx → RelV y u →
      (∀ v s' H', L2.Inv (X.blk s0 H0 sc env fp) pins σ H' s' → Nx H' → Q v s') → wpAny (model X.prog X.w) X.A (call (.builtin "set.add") [.ref D, u]) Q E s)
    (hc : X.calm = true) (hN : X.N.Nodup) (I : L2.Inv X pins σ H s) (hi : PI X tg iter wi) (ok : BlkOk X.N X.env.scope scope own)
    (hg : ∀ (s : Shared) (H : Hp) (C : Addr) (cl : List (Str × Addr)) (fp : List Addr), PG (X.blk s H scope (compEnvC scope cl C X.env) fp) tg g)
    (ht : ∀ (s : Shared) (H : Hp) (C : Addr) (cl : List (Str × Addr)) (fp : List Addr), PTs (X.blk s H scope (compEnvC scope cl C X.env) fp) ifs tt)
    (he : ∀ (s : Shared) (H : Hp) (C : Addr) (cl : List (Str × Addr)) (fp : List Addr), PE (X.blk s H scope (compEnvC scope cl C X.env) fp) elt te)
    (hs : ∀ x, foldedSetIterable iter X.env x = pure x) (h : tScG ini stp wi g tt te (own.map (fun x : Str × Nat => x.2)) σ H Q)
    (fin : ∀ D C t m H', L2.Inv X pins σ H' t → Q (.ref D) H' → t.heap.Ns C m → FpOk X pins H' C → compPost (model X.prog X.w) X.A X.xe use Qf (.ref D) C (.ok .next) t) :
    wpAny (model X.prog X.w) X.A (comprehension (.SetComp elt [⟨tg, iter, ifs, 0⟩] scope pos) scope X.env pos' (newSet (.type "set")) false (eval iter X.env) use) Qf X.xe s := by
  have hfree : ∀ y ∈ scope.names, y.2 = .free → ∃ c, X.env.cells.lookup y.1 = some c := fun y hy e => I.ok.has _ (ok.free y hy e)
  refine wpAny_comprehension_free (use := use) rfl hs (closure_ok hfree) ok.kind (fun y hy e => by rw [ok.uniq y hy, e]) (thn (hi.run pins s σ H _ I h) fun xv s1 hx => thn hx fun itv s2 ⟨it, fp, tn, J, H2, e, I2, T, st2, f2, q⟩ => ?_)
  subst e
  refine newSet_ok (newEnv_comp ?_)
  have hDn : H2 s2.heap.objs.size = none := I2.hok.fresh (Nat.le_refl _)
  obtain ⟨Wi, ⟨m0, w0⟩, turn⟩ := q _ hDn
  have I3 : L2.Inv X pins σ (upd H2 s2.heap.objs.size (ini s2.heap.objs.size)) { s2 with heap := s2.heap.push (setObj0 X.w) } :=
    I2.laid (t' := s2.toks) (fun b o e => Heap.get?_push_of_some _ e) (Nat.le_refl _) (hini _ s2.heap)
  have sz : ∀ b ∈ fp, b < s2.heap.objs.size := fun b hb => Heap.lt_size (T.obj _ _ st2 b hb).choose_spec.1
  have push2 : ∀ b o, s2.heap.get? b = some o → (s2.heap.push (setObj0 X.w)).get? b = some o := fun b o e => Heap.get?_push_of_some _ e
  generalize hs3 : ({ s2 with heap := s2.heap.push (setObj0 X.w) } : Shared) = s3 at I3 ⊢
  have h3 : s3.heap = s2.heap.push (setObj0 X.w) := by rw [← hs3]
  generalize hD : s2.heap.objs.size = D at *
  have f3 : ∀ b ∈ fp, FpOk X pins (upd H2 D (ini D)) b ∧ b < s3.heap.objs.size := fun b hb =>
    ⟨⟨by rw [upd_ne (Nat.ne_of_lt (sz b hb))]; exact (f2 b hb).1, (f2 b hb).2⟩, by rw [h3, Heap.size_push, hD]; exact Nat.lt_succ_of_lt (sz b hb)⟩
  have st3 : tn 0 s3.heap := T.keep _ _ _ st2 fun b _ o e => by rw [h3]; exact push2 b o e
  have nD : ∀ b ∈ fp, upd H2 D (ini D) b = none := fun b hb => (f3 b hb).1.1
  generalize hH3 : upd H2 D (ini D) = H3 at *
  have I4 := block_start I3 ok hN f3
  have pg := hg s3 H3 s3.heap.objs.size (cellsFrom (s3.heap.objs.size + 1) scope.names (cloFrom X.env.cells scope.names [])) fp
  have pt := ht s3 H3 s3.heap.objs.size (cellsFrom (s3.heap.objs.size + 1) scope.names (cloFrom X.env.cells scope.names [])) fp
  have pe := he s3 H3 s3.heap.objs.size (cellsFrom (s3.heap.objs.size + 1) scope.names (cloFrom X.env.cells scope.names [])) fp
  have st4 : tn 0 (pushCells (s3.heap.push { cls := .type "dict", data := .dict #[] }) scope.names) := T.keep _ _ _ st3 fun b _ o e => pushCells_keeps _ _ _ _ (Heap.get?_push_of_some _ e)
  show codeAny _ _ (.compStart (.SetComp elt [⟨tg, iter, ifs, 0⟩] scope pos) 0 (.ref it) (.ref D) (compEnvC scope (cellsFrom (s3.heap.objs.size + 1) scope.names (cloFrom X.env.cells scope.names [])) s3.heap.objs.size X.env))
    (compPost (model X.prog X.w) X.A X.xe use Qf (.ref D) s3.heap.objs.size) { s3 with heap := pushCells (s3.heap.push { cls := .type "dict", data := .dict #[] }) scope.names }
  generalize hce : compEnvC scope (cellsFrom (s3.heap.objs.size + 1) scope.names (cloFrom X.env.cells scope.names [])) s3.heap.objs.size X.env = ce at I4 pg pt pe ⊢
  have cL : ce.locals = s3.heap.objs.size := by rw [← hce]; rfl
  generalize hs4 : ({ s3 with heap := pushCells (s3.heap.push { cls := .type "dict", data := .dict #[] }) scope.names } : Shared) = s4 at I4 ⊢
  have st4 : tn 0 s4.heap := by rw [← hs4]; exact st4
  -- the iterator's objects are left alone by the block
  have apart : ∀ {σ' : L2.St} {H' : Hp} {t : Shared}, L2.Inv (X.blk s3 H3 scope ce fp) [] σ' H' t → (∀ b ∈ fp, H' b = none) → ∀ b ∈ fp, FpOk (X.blk s3 H3 scope ce fp) [] H' b := fun {σ' H' t} J' hn b hb =>
    ⟨hn b hb, (J'.ok.exf b hb).1, J'.ok.exfs b hb, .inl hb, fun x c e => (J'.ok.exf b hb).2 x c e, fun p hp => nomatch (show p ∈ ([] : List (Addr × Obj)) from hp)⟩
  have loop : codeAny (model X.prog X.w) X.A (.compLoop (.SetComp elt [⟨tg, iter, ifs, 0⟩] scope pos) 0 (.ref it) (.ref D) ce) (compPost (model X.prog X.w) X.A X.xe use Qf (.ref D) s3.heap.objs.size) s4 := by
    refine compLoopS_any (fun n t => ∃ i Hc, L2.Inv (X.blk s3 H3 scope ce fp) [] (wipe σ (own.map (fun x : Str × Nat => x.2))) Hc t ∧ (tn i t.heap ∧ (∀ b ∈ fp, Hc b = none)) ∧ Wi i n Hc) ?_ m0 ⟨0, H3, I4, ⟨st4, nD⟩, w0⟩
    rintro n s5 ⟨i, H5, I5, ⟨st5, n5⟩, w5⟩
    rcases turn i n H5 w5 with ⟨stop, qq⟩ | ⟨go, Nx, hNx, step⟩
    · refine thnF (T.done (X.blk s3 H3 scope ce fp) rfl rfl rfl hc i [] s5 _ H5 (fun _ _ => False) I5 (apart I5 n5) st5 stop) fun r s6 ⟨hr, I6⟩ => ?_
      subst hr
      obtain ⟨m, hm, _⟩ := I6.loc
      have fr6 : H5 ce.locals = none := I6.free
      rw [cL] at fr6
      have hm : s6.heap.Ns ce.locals m := hm
      rw [cL] at hm
      exact fin D _ s6 m H5 (I3.call' (ch := fp) I6.os I6.base I6.hok I6.bare fun b hb => ⟨(f3 b hb).1.2.2.2.1, (f3 b hb).1.2.1, (f3 b hb).1.2.2.2.2.1, (f3 b hb).1.2.2.2.2.2⟩) qq hm (I3.fpOk (Nat.le_refl _) fr6)
    · refine thnF (T.item (X.blk s3 H3 scope ce fp) rfl rfl rfl hc i [] s5 _ H5 (fun _ _ => False) I5 (apart I5 n5) st5 go) fun r s6 ⟨u, hr, h6⟩ => ?_
      subst hr
      refine thnF h6 fun _ s7 ⟨x, H7, I7, r7, y7, st7, n7⟩ => ?_
      refine thnF (pg.run _ s7 _ H7 x u _ (I7.pinned (apart I7 n7) (T.obj _ _ st7)) r7 (step x H7 y7)) fun _ s8 ⟨σ8, H8, I8, hw8, q8⟩ => ?_
      refine thnF (pt.run _ s8 σ8 H8 _ I8 q8) fun b s9 ⟨H9, I9, q9⟩ => ?_
      -- the turn is over
      have over : ∀ (t : Shared) (H' : Hp), L2.Inv (X.blk s3 H3 scope ce fp) ([] ++ pinsAt fp s7.heap) σ8 H' t → Nx H' → ∃ m, m < n ∧ ∃ i Hc, L2.Inv (X.blk s3 H3 scope ce fp) [] (wipe σ (own.map (fun x : Str × Nat => x.2))) Hc t ∧ (tn i t.heap ∧ (∀ b ∈ fp, Hc b = none)) ∧ Wi i m Hc := fun t H' I' nx => by
        obtain ⟨m', hm, w'⟩ := hNx H' nx
        have held : ∀ b ∈ fp, ∀ o, s7.heap.get? b = some o → t.heap.get? b = some o ∧ H' b = none := fun b hb o e =>
          ⟨(I'.pin (b, o) (List.mem_append_right _ (List.mem_append_right _ (mem_pinsAt hb e)))).1, (I'.pin (b, o) (List.mem_append_right _ (List.mem_append_right _ (mem_pinsAt hb e)))).2.1⟩
        refine ⟨m', hm, i + 1, H', (I'.unpinned (pins := [])).weak (by rw [← hw8, wipe_length]) (fun j v e => ?_), ⟨T.keep _ _ _ st7 fun b hb o e => (held b hb o e).1, fun b hb => ?_⟩, w'⟩
        · rw [← hw8] at e
          exact (wipe_some e).1
        · obtain ⟨o, e, _⟩ := T.obj _ _ st7 b hb
          exact (held b hb o e).2
      cases b with
      | false =>
        simp only [Bool.false_eq_true, if_false] at q9 ⊢
        exact over _ _ I9 q9
      | true =>
        simp only [if_true] at q9 ⊢
        refine thnF (pe.run _ s9 σ8 H9 _ I9 q9) fun z s10 ⟨yv, H10, I10, r10, q10⟩ => ?_
        exact hstp _ _ _ _ _ _ _ _ _ _ _ _ _ _ _ I10 q10 r10 fun v s' H' => over s' H'
  exact codeAny_compStart_set loop (T.self X.A 0 _ _ _ st4 loop)
theorem pe_scG {ini : Addr → HO} {stp : Addr → V → Hp → (Hp → Prop) → Prop} {elt tg iter : Expr} {ifs : List Expr} {scope : Scope} {own : List (Str × Nat)} {pos : Pos} {wi : TI} {g : TG} {tt : TT} {te : TE}
    (hini : ∀ (H : Hp) (h : Heap), ObjOk X.prog X.w H (h.push (setObj0 X.w)) h.objs.size (ini h.objs.size))
    (hstp : ∀ (s0 : Shared) (H0 : Hp) (sc : Scope) (env : PySem.Env) (fp : List Addr) (pins : List (Addr × Obj)) (σ : L2.St) (H : Hp) (s : Shared) (D : Addr) (y : V) (u : Value) (Nx : Hp → Prop) (Q : Value → Shared → Prop) (E : Value → Shared → Prop), L2.Inv (X.blk s0 H0 sc env fp) pins σ H s → stp D y H Nx → RelV y u →
      (∀ v s' H', L2.Inv (X.blk s0 H0 sc env fp) pins σ H' s' → Nx H' → Q v s') → wpAny (model X.prog X.w) X.A (call (.builtin "set.add") [.ref D, u]) Q E s)
    (hc : X.calm = true) (hN : X.N.Nodup) (hi : PI X tg iter wi) (ok : BlkOk X.N X.env.scope scope own)
    (hg : ∀ (s : Shared) (H : Hp) (C : Addr) (cl : List (Str × Addr)) (fp : List Addr), PG (X.blk s H scope (compEnvC scope cl C X.env) fp) tg g)
    (ht : ∀ (s : Shared) (H : Hp) (C : Addr) (cl : List (Str × Addr)) (fp : List Addr), PTs (X.blk s H scope (compEnvC scope cl C X.env) fp) ifs tt)
    (he : ∀ (s : Shared) (H : Hp) (C : Addr) (cl : List (Str × Addr)) (fp : List Addr), PE (X.blk s H scope (compEnvC scope cl C X.env) fp) elt te) (hs : ∀ x, foldedSetIterable iter X.env x = pure x := by intro _; rfl) :
    PE X (.SetComp elt [⟨tg, iter, ifs, 0⟩] scope pos) (tScG ini stp wi g tt te (own.map (fun x : Str × Nat => x.2))) := by
  refine ⟨fun pins s σ H Q I h => ?_⟩
  rw [eval_SetComp]
  refine scg_core hini hstp hc hN I hi ok hg ht he hs h fun D C t m H' I' q hn f => ⟨m, hn, fun h2 sb => ?_⟩
  obtain ⟨f0, f1, f2, f3, f4, f5⟩ := f
  exact ⟨.ref D, H', I'.turned (t' := t.toks) (fun b o hb e => (sb.2 b hb).trans e) f0 f1 f3 f4 f5, rfl, q⟩
end
end Rh

set_option Elab.async false
set_option linter.all false
set_option maxRecDepth 100000
set_option maxHeartbeats 2000000
set_option autoImplicit false
namespace Rh
open PySem PySem.Spec PyProof.Rows L2 PpSet
variable [Tbs]
/-! ### ascending ints -/
def insU (k : Int) : List Int → List Int
  | [] => [k]
  | a :: r => if k < a then k :: a :: r else if k = a then a :: r else a :: insU k r
theorem mem_insU {k j : Int} : ∀ {l : List Int}, j ∈ insU k l ↔ j = k ∨ j ∈ l
  | [] => by simp [insU]
  | a :: r => by
    unfold insU
    split
    · simp
    · split
      · rename_i h; subst h; simp
      · rw [List.mem_cons, mem_insU, List.mem_cons]
        constructor
        · rintro (h | h | h)
          · exact .inr (.inl h)
          · exact .inl h
          · exact .inr (.inr h)
        · rintro (h | h | h)
          · exact .inr (.inl h)
          · exact .inl h
          · exact .inr (.inr h)
theorem asc_insU {k : Int} : ∀ {l : List Int}, l.Pairwise (· < ·) → (insU k l).Pairwise (· < ·)
  | [], _ => by simp [insU]
  | a :: r, h => by
    obtain ⟨h1, h2⟩ := List.pairwise_cons.mp h
    unfold insU
    split
    · rename_i hk
      refine List.pairwise_cons.mpr ⟨fun b hb => ?_, h⟩
      rcases List.mem_cons.mp hb with rfl | hb
      · exact hk
      · exact Int.lt_trans hk (h1 b hb)
    · split
      · exact h
      · rename_i q1 q2
        refine List.pairwise_cons.mpr ⟨fun b hb => ?_, asc_insU h2⟩
        rcases mem_insU.mp hb with rfl | hb
        · omega
        · exact h1 b hb
theorem len_insU {k : Int} : ∀ {l : List Int}, l.Pairwise (· < ·) → (insU k l).length = if k ∈ l then l.length else l.length + 1
  | [], _ => by simp [insU]
  | a :: r, h => by
    obtain ⟨h1, h2⟩ := List.pairwise_cons.mp h
    unfold insU
    split
    · rename_i hk
      have : k ∉ a :: r := fun m => by
        rcases List.mem_cons.mp m with rfl | m
        · omega
        · have := h1 k m; omega
      rw [if_neg this]; rfl
    · split
      · rename_i q; subst q; simp
      · rename_i q1 q2
        rw [List.length_cons, len_insU h2]
        by_cases m : k ∈ r
        · simp [m]
        · have : k ∉ a :: r := fun z => by
            rcases List.mem_cons.mp z with z | z
            · exact q2 z
            · exact m z
          simp [m, this]
/-! ### a set of ints, as it is known -/
def SIO (w : World) (a : Addr) (ns : List Int) : HO := .ext fun h => SetR w h a (fun k => decide (k ∈ ns)) ns.length
theorem sio_new {w : World} {P : Program} {H : Hp} {h : Heap} {a : Addr} {ns : List Int} (R : SetR w h a (fun k => decide (k ∈ ns)) ns.length) : ObjOk P w H h a (SIO w a ns) := by
  have R0 := R
  obtain ⟨o, es, ep, t, ho, _⟩ := R0
  exact ⟨R, ⟨o, ho⟩, fun h1 h2 r k => r.at fun o e => k o e⟩
theorem sio_get {X : Cx} {pins : List (Addr × Obj)} {σ : L2.St} {H : Hp} {s : Shared} {a : Addr} {ns : List Int} (I : L2.Inv X pins σ H s) (e : H a = some (SIO X.w a ns)) : SetR X.w s.heap a (fun k => decide (k ∈ ns)) ns.length := (I.hok a _ e).1
theorem sio_ini (P : Program) (w : World) (H : Hp) (h : Heap) : ObjOk P w H (h.push (setObj0 w)) h.objs.size (SIO w h.objs.size []) :=
  sio_new ((setR_fresh (h := h) w).congr fun k => by simp)
/-- what adding asks -/
def stpI (w : World) (D : Addr) (y : V) (H : Hp) (Nx : Hp → Prop) : Prop := ∃ (k : Int) (ns : List Int), y = .int k ∧ H D = some (SIO w D ns) ∧ ns.Pairwise (· < ·) ∧ ns.length + 1 < scanBound ∧ Nx (upd H D (SIO w D (insU k ns)))
theorem stpI_ok {Y : Cx} {pins : List (Addr × Obj)} {σ : L2.St} {H : Hp} {s : Shared} {D : Addr} {y : V} {u : Value} {Nx : Hp → Prop} {Q : Value → Shared → Prop} {E : Value → Shared → Prop} (I : L2.Inv Y pins σ H s) (h : stpI Y.w D y H Nx) (ry : RelV y u) (k : ∀ v s' H', L2.Inv Y pins σ H' s' → Nx H' → Q v s') :
    wpAny (model Y.prog Y.w) Y.A (call (.builtin "set.add") [.ref D, u]) Q E s := by
  obtain ⟨n, ns, rfl, hD, asc, room, nx⟩ := h
  obtain ⟨tk, rfl⟩ := ry
  refine setR_add (sio_get I hD) room fun h' sb r => ?_
  have e1 : ∀ j : Int, decide (j ∈ insU n ns) = (decide (j ∈ ns) || decide (j = n)) := fun j => by
    by_cases a : j ∈ ns <;> by_cases b : j = n <;> simp [mem_insU, a, b]
  have e2 : (insU n ns).length = if decide (n ∈ ns) = true then ns.length else ns.length + 1 := by rw [len_insU asc]; simp
  have r2 : SetR Y.w h' D (fun j => decide (j ∈ insU n ns)) (insU n ns).length := by rw [e2]; exact r.congr e1
  have r3 := r2
  obtain ⟨o, es, ep, t, ho, _⟩ := r3
  exact k _ _ _ (I.write (t' := s.toks + 1) (x := D) (e := D) (o := SIO Y.w D (insU n ns)) (by rw [hD]; exact True.intro) (.inl rfl) (fun b ob hb e => (sb.2 b hb).trans e) ⟨o, ho⟩ (sio_new r2)) nx
theorem codeO_ne_sio {c a : Addr} {q : Str} {w : World} {ns : List Int} (h : LamX.CodeO c q = SIO w c ns) : False := by
  have ho : ((heapN c).push { cls := .none, data := .fields #[.none, .str q 0] }).get? c = some { cls := .none, data := .fields #[.none, .str q 0] } := by
    have := Heap.get?_push_size (heapN c) (o := { cls := .none, data := .fields #[.none, .str q 0] }) rfl
    rw [heapN_size] at this
    exact this
  unfold LamX.CodeO SIO at h
  injection h with h
  have h2 := congrFun h ((heapN c).push { cls := .none, data := .fields #[.none, .str q 0] })
  obtain ⟨o, es, ep, t, e1, _, e3, _⟩ := h2.mp ⟨_, #[.none, .str q 0], 0, ho, rfl, rfl⟩
  rw [ho] at e1
  cases e1
  cases e3
end Rh

set_option Elab.async false
set_option linter.all false
set_option maxRecDepth 100000
set_option maxHeartbeats 2000000
set_option autoImplicit false
/-! Twins of the mirrors for the kernel: the same functions by recursors alone. -/
namespace Rh
open PySem PySem.Spec PyProof.Rows L2
section
variable {α β : Type}
noncomputable def nthF (l : List α) : Nat → Option α := List.rec (motive := fun _ => Nat → Option α) (fun _ => none) (fun a _ ih i => Nat.rec (motive := fun _ => Option α) (some a) (fun k _ => ih k) i) l
theorem nthF_eq (l : List α) : ∀ i, nthF l i = l[i]? := by
  induction l with
  | nil => intro i; simp [nthF]
  | cons a r ih =>
    intro i
    cases i with
    | zero => rfl
    | succ k => exact (ih k).trans (by simp)
noncomputable def setF (b : α) (l : List α) : Nat → List α := List.rec (motive := fun _ => Nat → List α) (fun _ => []) (fun a r ih i => Nat.rec (motive := fun _ => List α) (b :: r) (fun k _ => a :: ih k) i) l
theorem setF_eq (b : α) (l : List α) : ∀ i, setF b l i = l.set i b := by
  induction l with
  | nil => intro i; simp [setF]
  | cons a r ih =>
    intro i
    cases i with
    | zero => rfl
    | succ k => exact congrArg (a :: ·) (ih k)
noncomputable def lenF (l : List α) : Nat := List.rec (motive := fun _ => Nat) 0 (fun _ _ n => Nat.add n 1) l
theorem lenF_eq (l : List α) : lenF l = l.length := by
  induction l with
  | nil => rfl
  | cons a r ih => exact congrArg (· + 1) ih
noncomputable def appF (l m : List α) : List α := List.rec (motive := fun _ => List α) m (fun a _ ih => a :: ih) l
theorem appF_eq (l m : List α) : appF l m = l ++ m := by
  induction l with
  | nil => rfl
  | cons a r ih => exact congrArg (a :: ·) ih
/-- the same with the whole row told at once -/
noncomputable def appS (l m : List α) : List α := List.rec (motive := fun _ => (List α → List α) → List α) (fun k => k m) (fun a _ ih k => ih fun t => k (a :: t)) l fun t => t
theorem appS_eq (l m : List α) : appS l m = l ++ m := by
  have : ∀ k : List α → List α, List.rec (motive := fun _ => (List α → List α) → List α) (fun k => k m) (fun a _ ih k => ih fun t => k (a :: t)) l k = k (l ++ m) := by
    induction l with
    | nil => intro k; rfl
    | cons a r ih => intro k; exact ih fun t => k (a :: t)
  exact this _
/-- `if` by a truth -/
noncomputable def iffF (c : Bool) (a b : α) : α := Bool.rec (motive := fun _ => α) b a c
theorem iffF_le (n m : Nat) (a b : α) : iffF (Nat.ble n m) a b = if n ≤ m then a else b := by
  by_cases h : n ≤ m
  · rw [if_pos h, Nat.ble_eq.mpr h]; rfl
  · rw [if_neg h]
    cases e : Nat.ble n m with
    | true => exact absurd (Nat.ble_eq.mp e) h
    | false => rfl
theorem iffF_eq (n m : Nat) (a b : α) : iffF (Nat.beq n m) a b = if n = m then a else b := by
  by_cases h : n = m
  · subst h; rw [if_pos rfl, Nat.beq_refl]; rfl
  · rw [if_neg h]
    cases e : Nat.beq n m with
    | true => exact absurd (Nat.eq_of_beq_eq_true e) h
    | false => rfl
theorem iffF_t (c : Bool) (a b : α) : iffF c a b = if c = true then a else b := by cases c <;> rfl
noncomputable def onInt (d : D) (k : Int → β) (z : β) : β := D.rec (motive_1 := fun _ => β) (motive_2 := fun _ => Unit) z (fun _ => z) (fun i => k i) (fun _ => z) (fun _ _ => z) (fun _ => z) (fun _ => z) (fun _ _ => z) (fun _ => z) z () (fun _ _ _ _ => ()) d
noncomputable def onBl (d : D) (k : Bool → β) (z : β) : β := D.rec (motive_1 := fun _ => β) (motive_2 := fun _ => Unit) z (fun b => k b) (fun _ => z) (fun _ => z) (fun _ _ => z) (fun _ => z) (fun _ => z) (fun _ _ => z) (fun _ => z) z () (fun _ _ _ _ => ()) d
noncomputable def onTup (d : D) (k : List D → β) (z : β) : β := D.rec (motive_1 := fun _ => β) (motive_2 := fun _ => Unit) z (fun _ => z) (fun _ => z) (fun _ => z) (fun ds _ => k ds) (fun _ => z) (fun _ => z) (fun _ _ => z) (fun _ => z) z () (fun _ _ _ _ => ()) d
noncomputable def onBox (d : D) (k : Nat → β) (z : β) : β := D.rec (motive_1 := fun _ => β) (motive_2 := fun _ => Unit) z (fun _ => z) (fun _ => z) (fun _ => z) (fun _ _ => z) (fun n => k n) (fun _ => z) (fun _ _ => z) (fun _ => z) z () (fun _ _ _ _ => ()) d
noncomputable def onLm (d : D) (k z : β) : β := D.rec (motive_1 := fun _ => β) (motive_2 := fun _ => Unit) z (fun _ => z) (fun _ => z) (fun _ => z) (fun _ _ => z) (fun _ => z) (fun _ => z) (fun _ _ => z) (fun _ => z) k () (fun _ _ _ _ => ()) d
noncomputable def onNat (i : Int) (k : Nat → β) (z : β) : β := Int.rec (motive := fun _ => β) (fun n => k n) (fun _ => z) i
noncomputable def onSome (o : Option α) (k : α → Option β) : Option β := Option.rec (motive := fun _ => Option β) none (fun a => k a) o
noncomputable def onR (o : Option (R α)) (k : α → Hs → Option (R β)) : Option (R β) := Option.rec (motive := fun _ => Option (R β)) none (fun r => R.rec (motive := fun _ => Option (R β)) (fun a h => k a h) (fun c fs h => some (.ex c fs h)) r) o
noncomputable def onS (ρ : En) (o : Option (R α)) (k : α → Hs → Option RS) : Option RS := Option.rec (motive := fun _ => Option RS) none (fun r => R.rec (motive := fun _ => Option RS) (fun a h => k a h) (fun c fs h => some (.ex c fs ρ h)) r) o
noncomputable def onSomeS (o : Option (En × Hs)) : Option RS := Option.rec (motive := fun _ => Option RS) none (fun p => Prod.rec (motive := fun _ => Option RS) (fun ρ h => some (.nx ρ h)) p) o
noncomputable def onF (o : Option FR) : Option (R D) := Option.rec (motive := fun _ => Option (R D)) none (fun r => FR.rec (motive := fun _ => Option (R D)) (fun d h => some (.ok d h)) (fun c fs h => some (.ex c fs h)) r) o
end
theorem mBind_on {α β : Type} (m : M α) (g : α → M β) : mBind m g = fun ρ h => onR (m ρ h) fun a h1 => g a ρ h1 := by
  funext ρ h; unfold mBind
  cases m ρ h with
  | none => rfl
  | some r => cases r <;> rfl
theorem mDo_on {α : Type} (m : M α) (g : α → MS) : mDo m g = fun ρ h => onS ρ (m ρ h) fun a h1 => g a ρ h1 := by
  funext ρ h; unfold mDo
  cases m ρ h with
  | none => rfl
  | some r => cases r <;> rfl
/-! expressions -/
noncomputable def zVar (i : Nat) : M D := fun ρ h => onSome (nthF ρ i) fun o => onSome o fun d => onLm d none (some (.ok d h))
theorem q_mVar : mVar = zVar := by
  funext i ρ h; unfold mVar zVar; rw [nthF_eq]
  cases ρ[i]? with
  | none => rfl
  | some o =>
    cases o with
    | none => rfl
    | some d => cases d <;> rfl
def zCon (d : D) : M D := fun _ h => some (.ok d h)
theorem q_mCon : mCon = zCon := rfl
noncomputable def zLift (h : Hs) (o : Option Nv) : Option (R D) := onSome o fun n => Nv.rec (motive := fun _ => Option (R D)) (fun d => some (.ok d h)) (fun o => Nv.lift (.n o) h) n
theorem zLift_eq (h : Hs) (o : Option Nv) : zLift h o = lift h o := by
  cases o with
  | none => rfl
  | some n => cases n <;> rfl
noncomputable def zOp2 (f : Hs → D → D → Option Nv) (a b : M D) : M D := fun ρ h => onR (a ρ h) fun x h1 => onR (b ρ h1) fun y h2 => zLift h2 (f h2 x y)
theorem q_mOp2 : mOp2 = zOp2 := by
  funext f a b; unfold mOp2 zOp2; rw [mBind_on]; funext ρ h
  refine congrArg (onR (a ρ h)) ?_
  funext x h1
  rw [mBind_on]
  refine congrArg (onR (b ρ h1)) ?_
  funext y h2; exact (zLift_eq _ _).symm
noncomputable def zOp1 (f : Hs → D → Option Nv) (a : M D) : M D := fun ρ h => onR (a ρ h) fun x h1 => zLift h1 (f h1 x)
theorem q_mOp1 : mOp1 = zOp1 := by
  funext f a; unfold mOp1 zOp1; rw [mBind_on]; funext ρ h
  refine congrArg (onR (a ρ h)) ?_
  funext x h1; exact (zLift_eq _ _).symm
noncomputable def zOpA (f : Hs → List D → Option Nv) (a : M (List D)) : M D := fun ρ h => onR (a ρ h) fun x h1 => zLift h1 (f h1 x)
theorem q_mOpA : mOpA = zOpA := by
  funext f a; unfold mOpA zOpA; rw [mBind_on]; funext ρ h
  refine congrArg (onR (a ρ h)) ?_
  funext x h1; exact (zLift_eq _ _).symm
def zNil : M (List D) := fun _ h => some (.ok [] h)
theorem q_mNil : mNil = zNil := rfl
noncomputable def zCons (a : M D) (r : M (List D)) : M (List D) := fun ρ h => onR (a ρ h) fun x h1 => onR (r ρ h1) fun xs h2 => some (.ok (x :: xs) h2)
theorem q_mCons : mCons = zCons := by
  funext a r; unfold mCons zCons; rw [mBind_on]; funext ρ h
  refine congrArg (onR (a ρ h)) ?_
  funext x h1; rw [mBind_on]; rfl
noncomputable def zTup (a : M (List D)) : M D := fun ρ h => onR (a ρ h) fun ds h1 => iffF (Nat.ble (lenF ds) 1000000) (some (.ok (.tup ds) h1)) none
theorem q_mTup : mTup = zTup := by
  funext a; unfold mTup mDisp zTup; rw [mBind_on]; funext ρ h
  refine congrArg (onR (a ρ h)) ?_
  funext x h1; rw [iffF_le, lenF_eq]; rfl
noncomputable def zLst (a : M (List D)) : M D := fun ρ h => onR (a ρ h) fun ds h1 => iffF (Nat.ble (lenF ds) 1000000) (Nv.lift (.n (.lst ds)) h1) none
theorem q_mLst : mLst = zLst := by
  funext a; unfold mLst mDisp zLst; rw [mBind_on]; funext ρ h
  refine congrArg (onR (a ρ h)) ?_
  funext x h1; rw [iffF_le, lenF_eq]
noncomputable def zB (m : M D) : M Bool := fun ρ h => onR (m ρ h) fun d h1 => onBl d (fun k => some (.ok k h1)) none
theorem q_mB : mB = zB := by
  funext a; unfold mB zB; rw [mBind_on]; funext ρ h
  refine congrArg (onR (a ρ h)) ?_
  funext d h1; cases d <;> rfl
noncomputable def zTruth (m : M D) : M Bool := fun ρ h => onR (m ρ h) fun d h1 => onBl d (fun k => some (.ok k h1)) (onSome (truthD h1 d) fun k => some (.ok k h1))
theorem q_mTruth : mTruth = zTruth := by
  funext a; unfold mTruth zTruth; rw [mBind_on]; funext ρ h
  refine congrArg (onR (a ρ h)) ?_
  funext d h1
  have e : (match truthD h1 d with | some k => some (R.ok k h1) | none => none) = onSome (truthD h1 d) fun k => some (R.ok k h1) := by cases truthD h1 d <;> rfl
  cases d <;> first | rfl | exact e
noncomputable def zOr (a b : M Bool) : M Bool := fun ρ h => onR (a ρ h) fun c h1 => iffF c (some (.ok true h1)) (b ρ h1)
theorem q_mOr : mOr = zOr := by
  funext a b; unfold mOr zOr; rw [mBind_on]; funext ρ h
  refine congrArg (onR (a ρ h)) ?_
  funext c h1; cases c <;> rfl
noncomputable def zIf (c : M Bool) (a b : M D) : M D := fun ρ h => onR (c ρ h) fun k h1 => iffF k (a ρ h1) (b ρ h1)
theorem q_mIf : mIf = zIf := by
  funext c a b; unfold mIf zIf; rw [mBind_on]; funext ρ h
  refine congrArg (onR (c ρ h)) ?_
  funext k h1; cases k <;> rfl
/-! operators -/
noncomputable def zInt (g : Int → Int → D) (f : Hs → D → D → Option Nv) : Hs → D → D → Option Nv := fun h d e => onInt d (fun i => onInt e (fun j => some (.v (g i j))) (f h d e)) (f h d e)
theorem zInt_eq (g : Int → Int → D) (f : Hs → D → D → Option Nv) (k : ∀ h i j, f h (.int i) (.int j) = some (.v (g i j))) : f = zInt g f := by
  funext h d e; unfold zInt
  cases d <;> first | rfl | (cases e <;> first | rfl | exact k _ _ _)
noncomputable def zAdd : Hs → D → D → Option Nv := zInt (fun i j => .int (Int.add i j)) dAdd
theorem q_dAdd : dAdd = zAdd := zInt_eq _ _ fun _ _ _ => rfl
noncomputable def zSub : Hs → D → D → Option Nv := zInt (fun i j => .int (Int.sub i j)) dSub
theorem q_dSub : dSub = zSub := zInt_eq _ _ fun _ _ _ => rfl
noncomputable def zEqA (neg : Bool) : Hs → D → D → Option Nv := zInt (fun i j => .bl (iffF neg (!PyData.eqv (.int i) (.int j)) (PyData.eqv (.int i) (.int j)))) (dEqA neg)
theorem q_dEqA : dEqA = zEqA := by
  funext neg; exact zInt_eq _ _ fun _ _ _ => by cases neg <;> rfl
noncomputable def zIx : Hs → D → D → Option Nv := fun h d e => onTup d (fun ds => onInt e (fun i => onNat i (fun n => onSome (nthF ds n) fun d => some (.v d)) (dIx h d e)) (dIx h d e)) (dIx h d e)
/-! statements -/
noncomputable def zSeq (a b : MS) : MS := fun ρ h => Option.rec (motive := fun _ => Option RS) none (fun r => RS.rec (motive := fun _ => Option RS) (fun ρ1 h1 => b ρ1 h1) (fun d h1 => some (.rt d h1)) (fun ρ1 h1 => some (.bk ρ1 h1)) (fun ρ1 h1 => some (.ct ρ1 h1)) (fun c fs ρ1 h1 => some (.ex c fs ρ1 h1)) r) (a ρ h)
theorem q_mSeq : mSeq = zSeq := by
  funext a b ρ h; unfold mSeq zSeq
  cases a ρ h with
  | none => rfl
  | some r => cases r <;> rfl
noncomputable def zSet (i : Nat) (m : M D) : MS := fun ρ h => onS ρ (m ρ h) fun d h1 => some (.nx (setF (some d) ρ i) h1)
theorem q_mSet : mSet = zSet := by
  funext i m; unfold mSet zSet; rw [mDo_on]; funext ρ h
  refine congrArg (onS ρ (m ρ h)) ?_
  funext d h1; rw [setF_eq]
noncomputable def zRet (m : M D) : MS := fun ρ h => onS ρ (m ρ h) fun d h1 => some (.rt d h1)
theorem q_mRet : mRet = zRet := by
  funext m; unfold mRet zRet; rw [mDo_on]
noncomputable def zExpr (m : M D) : MS := fun ρ h => onS ρ (m ρ h) fun d h1 => some (.nx ρ h1)
theorem q_mExpr : mExpr = zExpr := by
  funext m; unfold mExpr zExpr; rw [mDo_on]; rfl
noncomputable def zIfS (c : M Bool) (a b : MS) : MS := fun ρ h => onS ρ (c ρ h) fun k h1 => iffF k (a ρ h1) (b ρ h1)
theorem q_mIfS : mIfS = zIfS := by
  funext c a b; unfold mIfS zIfS; rw [mDo_on]; funext ρ h
  refine congrArg (onS ρ (c ρ h)) ?_
  funext k h1; cases k <;> rfl
noncomputable def zAsg (t : TM) (m : M D) : MS := fun ρ h => onS ρ (m ρ h) fun d h1 => onSomeS (t d ρ h1)
theorem q_mAsg : mAsg = zAsg := by
  funext t m; unfold mAsg zAsg; rw [mDo_on]; funext ρ h
  refine congrArg (onS ρ (m ρ h)) ?_
  funext d h1
  cases t d ρ h1 <;> rfl
/-! calls -/
noncomputable def zEnv (as : List D) : Nat → En := List.rec (motive := fun _ => Nat → En) (fun n => Nat.rec (motive := fun _ => En) [] (fun _ r => none :: r) n) (fun d _ ih n => some d :: ih (Nat.sub n 1)) as
theorem zEnv_eq (as : List D) : ∀ n, zEnv as n = envOf n as := by
  induction as with
  | nil =>
    intro n
    show Nat.rec (motive := fun _ => En) [] (fun _ r => none :: r) n = [] ++ List.replicate (n - 0) none
    rw [List.nil_append, Nat.sub_zero]
    induction n with
    | zero => rfl
    | succ k ih => exact congrArg (none :: ·) ih
  | cons d r ih =>
    intro n
    refine (congrArg (some d :: ·) (ih (n - 1))).trans ?_
    unfold envOf
    rw [List.map_cons, List.cons_append, List.length_cons, show n - (r.length + 1) = n - 1 - r.length by omega]
noncomputable def zRun (n : Nat) (body : MS) (as : List D) (h : Hs) : Option FR := Option.rec (motive := fun _ => Option FR) none (fun r => RS.rec (motive := fun _ => Option FR) (fun _ h1 => some (.rt .non h1)) (fun d h1 => some (.rt d h1)) (fun _ _ => none) (fun _ _ => none) (fun c fs _ h1 => some (.ex c fs h1)) r) (body (zEnv as n) h)
theorem q_runDef : runDef = zRun := by
  funext n body as h; unfold runDef zRun; rw [zEnv_eq]
  cases body (envOf n as) h with
  | none => rfl
  | some r => cases r <;> rfl
noncomputable def zFuel (N : List Str) (m : FM → MS) (n : Nat) : FM := Nat.rec (motive := fun _ => FM) (fun _ _ => none) (fun _ f => zRun N.length (m f)) n
theorem q_fuelF : fuelF = zFuel := by
  funext N m n
  induction n with
  | zero => rfl
  | succ k ih =>
    show runDef N.length (m (fuelF N m k)) = zRun N.length (m (zFuel N m k))
    rw [ih, q_runDef]
noncomputable def zCall (f : FM) (ms : M (List D)) : M D := fun ρ h => onR (ms ρ h) fun as h1 => onF (f as h1)
theorem q_mCall : mCall = zCall := by
  funext f ms; unfold mCall zCall; rw [mBind_on]; funext ρ h
  refine congrArg (onR (ms ρ h)) ?_
  funext as h1
  cases f as h1 with
  | none => rfl
  | some r => cases r <;> rfl
/-! loops -/
noncomputable def zLoop (t : TM) (body : MS) (ds : List D) : MS := List.rec (motive := fun _ => MS) (fun ρ h => some (.nx ρ h)) (fun d _ ih ρ h => Option.rec (motive := fun _ => Option RS) none (fun p => Prod.rec (motive := fun _ => Option RS) (fun ρ1 h1 => Option.rec (motive := fun _ => Option RS) none (fun r => RS.rec (motive := fun _ => Option RS) (fun ρ2 h2 => ih ρ2 h2) (fun d h2 => some (.rt d h2)) (fun ρ2 h2 => some (.nx ρ2 h2)) (fun ρ2 h2 => ih ρ2 h2) (fun c fs ρ2 h2 => some (.ex c fs ρ2 h2)) r) (body ρ1 h1)) p) (t d ρ h)) ds
theorem zLoop_eq (t : TM) (body : MS) : loopF t body = zLoop t body := by
  funext ds
  induction ds with
  | nil => rfl
  | cons d r ih =>
    funext ρ h
    unfold loopF
    show _ = Option.rec (motive := fun _ => Option RS) none (fun p => Prod.rec (motive := fun _ => Option RS) (fun ρ1 h1 => Option.rec (motive := fun _ => Option RS) none (fun q => RS.rec (motive := fun _ => Option RS) (fun ρ2 h2 => zLoop t body r ρ2 h2) (fun d h2 => some (.rt d h2)) (fun ρ2 h2 => some (.nx ρ2 h2)) (fun ρ2 h2 => zLoop t body r ρ2 h2) (fun c fs ρ2 h2 => some (.ex c fs ρ2 h2)) q) (body ρ1 h1)) p) (t d ρ h)
    cases t d ρ h with
    | none => rfl
    | some p =>
      obtain ⟨ρ1, h1⟩ := p
      show (match body ρ1 h1 with
        | some (.nx ρ2 h2) => loopF t body r ρ2 h2
        | some (.ct ρ2 h2) => loopF t body r ρ2 h2
        | some (.bk ρ2 h2) => some (.nx ρ2 h2)
        | o => o) = _
      rw [ih]
      show _ = Option.rec (motive := fun _ => Option RS) none (fun q => RS.rec (motive := fun _ => Option RS) (fun ρ2 h2 => zLoop t body r ρ2 h2) (fun d h2 => some (.rt d h2)) (fun ρ2 h2 => some (.nx ρ2 h2)) (fun ρ2 h2 => zLoop t body r ρ2 h2) (fun c fs ρ2 h2 => some (.ex c fs ρ2 h2)) q) (body ρ1 h1)
      cases body ρ1 h1 with
      | none => rfl
      | some q => cases q <;> rfl
noncomputable def zUnlk (L : List Nat) (o : Option RS) : Option RS := Option.rec (motive := fun _ => Option RS) none (fun r => RS.rec (motive := fun _ => Option RS) (fun ρ h => some (.nx ρ (relk L h))) (fun d h => some (.rt d (relk L h))) (fun ρ h => some (.bk ρ (relk L h))) (fun ρ h => some (.ct ρ (relk L h))) (fun c fs ρ h => some (.ex c fs ρ (relk L h))) r) o
theorem zUnlk_eq : unlk = zUnlk := by
  funext L o
  cases o with
  | none => rfl
  | some r => cases r <;> rfl
noncomputable def zFor (mi : M (List D × List Nat)) (t : TM) (body : MS) : MS := fun ρ h => onS ρ (mi ρ h) fun p h1 => zUnlk h1.lk (zLoop t body p.1 ρ (relk (appF p.2 h1.lk) h1))
theorem q_mFor : mFor = zFor := by
  funext mi t body; unfold mFor zFor; rw [mDo_on]; funext ρ h
  refine congrArg (onS ρ (mi ρ h)) ?_
  funext p h1; rw [zUnlk_eq, zLoop_eq, appF_eq]
noncomputable def zName (i : Nat) : TM := fun d ρ h => some (setF (some d) ρ i, h)
theorem q_tName : tName = zName := by
  funext i d ρ h; unfold tName zName; rw [setF_eq]
noncomputable def zsCons (t : TM) (ts : TMs) : TMs := fun ds ρ h => List.rec (motive := fun _ => Option (En × Hs)) none (fun d r _ => Option.rec (motive := fun _ => Option (En × Hs)) none (fun p => Prod.rec (motive := fun _ => Option (En × Hs)) (fun ρ1 h1 => ts r ρ1 h1) p) (t d ρ h)) ds
theorem q_tsCons : tsCons = zsCons := by
  funext t ts ds ρ h; unfold tsCons zsCons
  cases ds with
  | nil => rfl
  | cons d r =>
    show (match t d ρ h with | none => none | some (ρ1, h1) => ts r ρ1 h1) = Option.rec (motive := fun _ => Option (En × Hs)) none (fun p => Prod.rec (motive := fun _ => Option (En × Hs)) (fun ρ1 h1 => ts r ρ1 h1) p) (t d ρ h)
    cases t d ρ h <;> rfl
noncomputable def zTupT (n : Nat) (ts : TMs) : TM := fun d ρ h => onTup d (fun ds => iffF (Nat.beq (lenF ds) n) (ts ds ρ h) none) (tTup n ts d ρ h)
theorem q_tTup : tTup = zTupT := by
  funext n ts d ρ h; unfold zTupT
  cases d <;> first | rfl | skip
  rename_i ds
  show (if ds.length = n then ts ds ρ h else none) = iffF (Nat.beq (lenF ds) n) (ts ds ρ h) none
  rw [iffF_eq, lenF_eq]
noncomputable def zIter (m : M D) : M (List D × List Nat) := fun ρ h => onR (m ρ h) fun d h1 => onTup d (fun ds => some (.ok (ds, []) h1)) (onSome (iterD h1 d) fun p => some (.ok p h1))
theorem q_mIter : mIter = zIter := by
  funext m; unfold mIter zIter; rw [mBind_on]; funext ρ h
  refine congrArg (onR (m ρ h)) ?_
  funext d h1
  have e : (match iterD h1 d with | some p => some (R.ok p h1) | none => none) = onSome (iterD h1 d) fun p => some (R.ok p h1) := by cases iterD h1 d <;> rfl
  cases d <;> first | exact e | rfl
noncomputable def zWipe (ρ : En) (vs : List Nat) : En := List.rec (motive := fun _ => En) ρ (fun v _ r => setF none r v) vs
theorem zWipe_eq (ρ : En) (vs : List Nat) : wipeE ρ vs = zWipe ρ vs := by
  induction vs with
  | nil => rfl
  | cons v r ih => exact (congrArg (fun z => List.set z v none) ih).trans (setF_eq _ _ _).symm
noncomputable def zLoopC (t : TM) (conds : M Bool) (elt : M D) (ρ : En) (ds : List D) : Hs → Option (List D × Hs) := List.rec (motive := fun _ => Hs → Option (List D × Hs)) (fun h => some ([], h)) (fun d _ ih h => Option.rec (motive := fun _ => Option (List D × Hs)) none (fun p => Prod.rec (motive := fun _ => Option (List D × Hs)) (fun ρ1 h1 => Option.rec (motive := fun _ => Option (List D × Hs)) none (fun r => R.rec (motive := fun _ => Option (List D × Hs)) (fun b h2 => Bool.rec (motive := fun _ => Option (List D × Hs)) (ih h2) (Option.rec (motive := fun _ => Option (List D × Hs)) none (fun r2 => R.rec (motive := fun _ => Option (List D × Hs)) (fun x h3 => Option.rec (motive := fun _ => Option (List D × Hs)) none (fun q => Prod.rec (motive := fun _ => Option (List D × Hs)) (fun es h4 => some (x :: es, h4)) q) (ih h3)) (fun _ _ _ => none) r2) (elt ρ1 h2)) b) (fun _ _ _ => none) r) (conds ρ1 h1)) p) (t d ρ h)) ds
theorem zLoopC_eq (t : TM) (conds : M Bool) (elt : M D) (ρ : En) : loopC t conds elt ρ = zLoopC t conds elt ρ := by
  funext ds
  induction ds with
  | nil => rfl
  | cons d r ih =>
    funext h
    unfold loopC turnC
    show _ = Option.rec (motive := fun _ => Option (List D × Hs)) none (fun p => Prod.rec (motive := fun _ => Option (List D × Hs)) (fun ρ1 h1 => Option.rec (motive := fun _ => Option (List D × Hs)) none (fun q => R.rec (motive := fun _ => Option (List D × Hs)) (fun b h2 => Bool.rec (motive := fun _ => Option (List D × Hs)) (zLoopC t conds elt ρ r h2) (Option.rec (motive := fun _ => Option (List D × Hs)) none (fun r2 => R.rec (motive := fun _ => Option (List D × Hs)) (fun x h3 => Option.rec (motive := fun _ => Option (List D × Hs)) none (fun q => Prod.rec (motive := fun _ => Option (List D × Hs)) (fun es h4 => some (x :: es, h4)) q) (zLoopC t conds elt ρ r h3)) (fun _ _ _ => none) r2) (elt ρ1 h2)) b) (fun _ _ _ => none) q) (conds ρ1 h1)) p) (t d ρ h)
    cases t d ρ h with
    | none => rfl
    | some p =>
      obtain ⟨ρ1, h1⟩ := p
      dsimp only
      cases conds ρ1 h1 with
      | none => rfl
      | some q =>
        cases q with
        | ex _ _ _ => rfl
        | ok b h2 =>
          cases b with
          | false =>
            dsimp only
            rw [ih]
            cases zLoopC t conds elt ρ r h2 <;> rfl
          | true =>
            dsimp only
            cases elt ρ1 h2 with
            | none => rfl
            | some q2 =>
              cases q2 with
              | ex _ _ _ => rfl
              | ok x h3 =>
                dsimp only
                rw [ih]
                cases zLoopC t conds elt ρ r h3 <;> rfl
noncomputable def zLc (mi : M (List D × List Nat)) (t : TM) (conds : M Bool) (elt : M D) (vs : List Nat) : M D := fun ρ h => onR (mi ρ h) fun p h1 => iffF (Nat.ble (lenF p.1) 1000000) (Option.rec (motive := fun _ => Option (R D)) none (fun q => Prod.rec (motive := fun _ => Option (R D)) (fun es h' => Nv.lift (.n (.lst es)) (relk h1.lk h')) q) (zLoopC t conds elt (zWipe ρ vs) p.1 (relk (appF p.2 h1.lk) h1))) none
theorem q_mLc : mLc = zLc := by
  funext mi t conds elt vs; unfold mLc zLc; rw [mBind_on]; funext ρ h
  refine congrArg (onR (mi ρ h)) ?_
  funext p h1
  rw [iffF_le, lenF_eq, zWipe_eq, zLoopC_eq, appF_eq]
  cases zLoopC t conds elt (zWipe ρ vs) p.1 (relk (p.2 ++ h1.lk) h1) <;> rfl

theorem atI_nat (ds : List D) (n : Nat) : atI ds (Int.ofNat n) = ds[n]? := by
  unfold atI ixN
  have h0 : (0 : Int) ≤ Int.ofNat n := Int.natCast_nonneg n
  rw [if_pos h0]
  by_cases h : n < ds.length
  · have h1 : Int.ofNat n < (ds.length : Int) := Int.ofNat_lt.mpr h
    rw [if_pos h1]; rfl
  · have h1 : ¬ Int.ofNat n < (ds.length : Int) := fun z => h (Int.ofNat_lt.mp z)
    rw [if_neg h1, List.getElem?_eq_none (by omega)]; rfl
theorem q_dIx : dIx = zIx := by
  funext h d e; unfold zIx
  cases d <;> first | rfl | skip
  cases e <;> first | rfl | skip
  rename_i ds i
  cases i with
  | negSucc k => rfl
  | ofNat n =>
    show dIx h (.tup ds) (.int (.ofNat n)) = onSome (nthF ds n) fun d => some (.v d)
    rw [nthF_eq]
    unfold dIx dIxT
    dsimp only
    rw [atI_nat]
    cases ds[n]? <;> rfl
noncomputable def zRg (n : Nat) : Int → List D := Nat.rec (motive := fun _ => Int → List D) (fun _ => []) (fun _ ih k => .int k :: ih (Int.add k 1)) n
theorem zRg_eq (n : Nat) : ∀ k : Int, zRg n k = (List.range n).map fun (j : Nat) => D.int (k + (j : Nat)) := by
  induction n with
  | zero => intro k; rfl
  | succ m ih =>
    intro k
    refine (congrArg (D.int k :: ·) (ih (k + 1))).trans ?_
    rw [List.range_succ_eq_map, List.map_cons, List.map_map]
    refine congr (congrArg List.cons (by simp)) ?_
    refine List.map_congr_left fun j _ => ?_
    show D.int (k + 1 + (j : Int)) = D.int (k + ((j + 1 : Nat) : Int))
    congr 1
    omega
noncomputable def zRg0 (j : Int) : List D := onNat j (fun n => zRg n (Int.ofNat 0)) (rangeD 0 j)
theorem zRg0_eq (j : Int) : rangeD 0 j = zRg0 j := by
  cases j with
  | negSucc k => rfl
  | ofNat n =>
    show rangeD 0 (Int.ofNat n) = zRg n (Int.ofNat 0)
    rw [zRg_eq]
    unfold rangeD
    have : (Int.ofNat n - 0).toNat = n := by rw [Int.sub_zero]; rfl
    rw [this]
    rfl
noncomputable def zRange1 (ms : M (List D)) : M (List D × List Nat) := mBind ms fun ds => fun _ h => match ds with
  | [.int j] => if -1000000 ≤ j ∧ j ≤ 1000000 then some (.ok (zRg0 j, []) h) else none
  | _ => none
theorem q_mRange1 : mRange1 = zRange1 := by
  funext ms
  unfold mRange1 zRange1
  refine congrArg (mBind ms) ?_
  funext ds ρ h
  cases ds with
  | nil => rfl
  | cons d r =>
    cases r with
    | cons _ _ => cases d <;> rfl
    | nil =>
      cases d <;> first | rfl | skip
      rename_i j
      show (if -1000000 ≤ j ∧ j ≤ 1000000 then some (R.ok (rangeD 0 j, ([] : List Nat)) h) else none) = (if -1000000 ≤ j ∧ j ≤ 1000000 then some (R.ok (zRg0 j, []) h) else none)
      rw [zRg0_eq]
noncomputable def zTuple (h : Hs) (as : List D) : Option Nv := List.rec (motive := fun _ => Option Nv) none (fun d r _ => List.rec (motive := fun _ => Option Nv) (onTup d (fun ds => some (.v (.tup ds))) (onSome (seqD h d) fun ds => some (.v (.tup ds)))) (fun _ _ _ => none) r) as
theorem q_dTuple : dTuple = zTuple := by
  funext h as
  cases as with
  | nil => rfl
  | cons d r =>
    cases r with
    | cons _ _ => cases d <;> rfl
    | nil =>
      have e : (seqD h d).map (fun ds => Nv.v (.tup ds)) = onSome (seqD h d) fun ds => some (Nv.v (.tup ds)) := by cases seqD h d <;> rfl
      cases d <;> first | exact e | rfl
noncomputable def zLen (h : Hs) (as : List D) : Option Nv := List.rec (motive := fun _ => Option Nv) (dLenA h as) (fun d r _ => List.rec (motive := fun _ => Option Nv) (onTup d (fun ds => some (.v (.int (Int.ofNat (lenF ds))))) (dLenA h as)) (fun _ _ _ => dLenA h as) r) as
theorem q_dLenA : dLenA = zLen := by
  funext h as
  cases as with
  | nil => rfl
  | cons d r =>
    cases r with
    | cons _ _ => rfl
    | nil =>
      cases d <;> first | rfl | skip
      rename_i ds
      show dLenA h [.tup ds] = some (.v (.int (Int.ofNat (lenF ds))))
      rw [lenF_eq]; rfl

/-! keys of dicts, by a number first -/
noncomputable def codeK (k : NestedKey) : Nat := NestedKey.rec (motive_1 := fun _ => Nat) (motive_2 := fun _ => Nat) 1 (fun i => Int.rec (motive := fun _ => Nat) (fun n => Nat.add (Nat.mul n 4) 3) (fun n => Nat.add (Nat.mul n 4) 5) i) (fun _ => 2) (fun _ c => Nat.add (Nat.mul c 4) 4) 0 (fun _ _ c t => Nat.mod (Nat.add (Nat.mul t 1000003) (Nat.add c 1)) 2305843009213693951) k
noncomputable def fIdxH (k : NestedKey) (ks : List NestedKey) : Nat → Option Nat := List.rec (motive := fun _ => Nat → Option Nat) (fun _ => none) (fun x _ ih i => iffF (Nat.beq (codeK x) (codeK k)) (iffF (kqC x k) (some i) (ih (Nat.add i 1))) (ih (Nat.add i 1))) ks
theorem fIdxH_eq (k : NestedKey) (ks : List NestedKey) : ∀ i, fIdxH k ks i = fIdx k ks i := by
  induction ks with
  | nil => intro i; rfl
  | cons x r ih =>
    intro i
    show iffF (Nat.beq (codeK x) (codeK k)) (iffF (kqC x k) (some i) (fIdxH k r (i + 1))) (fIdxH k r (i + 1)) = fIdx k (x :: r) i
    rw [ih]
    have u : fIdx k (x :: r) i = match kqC x k with
      | true => some i
      | false => fIdx k r (i + 1) := by
      conv => lhs; unfold fIdx
      all_goals rfl
    rw [u]
    cases e : kqC x k with
    | false => cases Nat.beq (codeK x) (codeK k) <;> rfl
    | true =>
      rw [@kqC_eq ⟨[], none, [], []⟩] at e
      rw [of_decide_eq_true e, Nat.beq_refl]
      rfl
noncomputable def keyH (d : D) : Option NestedKey := D.rec (motive_1 := fun _ => Option NestedKey) (motive_2 := fun _ => Option (List NestedKey)) (some .none) (fun b => some (.num (iffF b 1 0))) (fun i => some (.num i)) (fun x => some (.text x)) (fun _ q => onSome q fun ks => some (.tup ks)) (fun _ => none) (fun _ => none) (fun _ _ => none) (fun _ => none) none (some []) (fun _ _ a b => onSome a fun k => onSome b fun ks => some (k :: ks)) d
noncomputable def keysH (ds : List D) : Option (List NestedKey) := D.rec_1 (motive_1 := fun _ => Option NestedKey) (motive_2 := fun _ => Option (List NestedKey)) (some .none) (fun b => some (.num (iffF b 1 0))) (fun i => some (.num i)) (fun x => some (.text x)) (fun _ q => onSome q fun ks => some (.tup ks)) (fun _ => none) (fun _ => none) (fun _ _ => none) (fun _ => none) none (some []) (fun _ _ a b => onSome a fun k => onSome b fun ks => some (k :: ks)) ds
theorem keyH_eq (d : D) : keyH d = keyD d :=
  D.rec (motive_1 := fun d => keyH d = keyD d) (motive_2 := fun ds => keysH ds = keysD ds) rfl (fun b => by cases b <;> rfl) (fun _ => rfl) (fun _ => rfl)
    (fun ds q => by
      show (onSome (keysH ds) fun ks => some (NestedKey.tup ks)) = (keysD ds).map NestedKey.tup
      rw [q]; cases keysD ds <;> rfl) (fun _ => rfl) (fun _ => rfl) (fun _ _ => rfl) (fun _ => rfl) rfl rfl
    (fun d ds a b => by
      show (onSome (keyH d) fun k => onSome (keysH ds) fun ks => some (k :: ks)) = keysD (d :: ds)
      have u : keysD (d :: ds) = match keyD d, keysD ds with
        | some k, some ks => some (k :: ks)
        | _, _ => none := by
        conv => lhs; unfold keysD
        all_goals rfl
      rw [a, b, u]
      cases keyD d with
      | none => rfl
      | some k => cases keysD ds <;> rfl) d
noncomputable def idxH (nks : List NestedKey) (kd : D) : Option (Option Nat) := onSome (keyH kd) fun nk => iffF (okK nks nk) (some (fIdxH nk nks 0)) none
theorem idxH_eq (nks : List NestedKey) (kd : D) : idxH nks kd = idxD nks kd := by
  unfold idxH idxD; rw [keyH_eq]
  cases keyD kd with
  | none => rfl
  | some nk =>
    show iffF (okK nks nk) (some (fIdxH nk nks 0)) none = if okK nks nk = true then some (fIdx nk nks 0) else none
    rw [iffF_t, fIdxH_eq]
noncomputable def onDct {β : Type} (h : Hs) (d : D) (k : Nat → List NestedKey → List D → List D → β) (z : β) : β := onBox d (fun n => Option.rec (motive := fun _ => β) z (fun o => O.rec (motive := fun _ => β) (fun _ => z) (fun nks ks vs => k n nks ks vs) (fun _ _ => z) (fun _ _ => z) (fun _ _ => z) o) (h.get n)) z
noncomputable def zIx2 : Hs → D → D → Option Nv := fun h d e => onTup d (fun ds => onInt e (fun i => onNat i (fun n => onSome (nthF ds n) fun d => some (.v d)) (dIx h d e)) (dIx h d e)) (onDct h d (fun _ nks _ vs => onSome (idxH nks e) fun o => onSome o fun i => onSome (nthF vs i) fun d => some (.v d)) (dIx h d e))
theorem q2_dIx : dIx = zIx2 := by
  funext h d e
  unfold zIx2
  cases d <;> first | rfl | skip
  · exact congrFun (congrFun (congrFun q_dIx h) _) e
  · rename_i n
    show dIx h (.box n) e = Option.rec (motive := fun _ => Option Nv) (dIx h (.box n) e) (fun o => O.rec (motive := fun _ => Option Nv) (fun _ => dIx h (.box n) e) (fun nks ks vs => onSome (idxH nks e) fun o => onSome o fun i => onSome (nthF vs i) fun d => some (.v d)) (fun _ _ => dIx h (.box n) e) (fun _ _ => dIx h (.box n) e) (fun _ _ => dIx h (.box n) e) o) (h.get n)
    cases g : h.get n with
    | none => rfl
    | some o =>
      cases o <;> first | rfl | skip
      rename_i nks ks vs
      show dIx h (.box n) e = onSome (idxH nks e) fun o => onSome o fun i => onSome (nthF vs i) fun d => some (.v d)
      have e1 : dIxT h (.box n) e = none := by unfold dIxT; cases e <;> rfl
      have e2 : dIxL h (.box n) e = none := by unfold dIxL lstD; dsimp only; rw [g]
      have e3 : dIx h (.box n) e = dIxD h (.box n) e := by unfold dIx; rw [e1]; dsimp only; rw [e2]
      rw [e3, idxH_eq]
      unfold dIxD; dsimp only; rw [g]; dsimp only
      cases idxD nks e with
      | none => rfl
      | some o =>
        cases o with
        | none => rfl
        | some i =>
          show (vs[i]?).map Nv.v = onSome (nthF vs i) fun d => some (.v d)
          rw [nthF_eq]; cases vs[i]? <;> rfl
end Rh

set_option Elab.async false
set_option linter.all false
set_option maxRecDepth 100000
set_option maxHeartbeats 2000000
set_option autoImplicit false
namespace Rh
open PySem PySem.Spec PyProof.Rows L2
variable [Tbs]
theorem cl_back {w : World} {K : PySem.W.Frag} {mg : Str → Option Value} {L : List Nat} {μ : Mu} {H : Hp} {h h' : Hs} {μ' : Mu} {H' : Hp} (hr : HR ⟨w, K, mg⟩ L μ H h) (g : Go [] [] H μ' H') (r : HR ⟨w, K, mg⟩ [] μ' H' h') : Go L μ H μ H' ∧ HR ⟨w, K, mg⟩ L μ H' h := by
  have kb : ∀ b o, H b = some o → (∀ ps, o ≠ .tbl ps) → H' b = some o := fun b o e nt => g.keep b o e nt (by simp)
  have at_ : ∀ (i : Nat) (b : Addr), μ[i]? = some b → H' b = H b := fun i b e => by
    obtain ⟨o, _, qo⟩ := hr.ob i b e
    cases o with
    | lst ds => obtain ⟨vs, e1, _⟩ := qo; rw [e1, kb b _ e1 fun _ z => nomatch z]
    | dct nks ks vs => obtain ⟨es, e1, _⟩ := qo; rw [e1, kb b _ e1 fun _ z => nomatch z]
    | lam _ _ => exact qo.elim
    | exo _ _ => obtain ⟨ac, d, _, e1, _⟩ := qo; rw [e1, kb b _ e1 fun _ z => nomatch z]
    | ins _ _ => obtain ⟨C0, dx, vs, _, e1, _⟩ := qo; rw [e1, kb b _ e1 fun _ z => nomatch z]
  have st : Stay μ H μ H' := ⟨fun _ _ e => e, fun b xs e => kb b _ e (fun _ z => nomatch z), fun b ob u e => kb b _ e (fun _ z => nomatch z)⟩
  exact ⟨⟨fun i _ b e => at_ i b e, fun b o e nt _ => kb b o e nt, g.dom, ⟨[], (List.append_nil _).symm⟩, fun _ m => .inl m⟩, ⟨hr.lk, hr.len, hr.nd, r.tb, fun i b e => let ⟨o, e1, qo⟩ := hr.ob i b e; ⟨o, e1, qo.stay st (at_ i b e)⟩⟩⟩
end Rh
namespace Rh
open PySem PySem.Spec PyProof.Rows L2
end Rh
namespace Rh
/-! methods, append -/
noncomputable def zMeth (ck : Hs → D → Bool) (f : Hs → D → List D → Option (D × Hs)) (m : M D) (ms : M (List D)) : M D := fun ρ h => onR (m ρ h) fun d h1 => iffF (ck h1 d) (onR (ms ρ h1) fun ds h2 => Option.rec (motive := fun _ => Option (R D)) none (fun p => Prod.rec (motive := fun _ => Option (R D)) (fun d' h' => some (.ok d' h')) p) (f h2 d ds)) none
theorem q_mMeth : mMeth = zMeth := by
  funext ck f m ms; unfold mMeth zMeth; rw [mBind_on]; funext ρ h
  refine congrArg (onR (m ρ h)) ?_
  funext d h1
  dsimp only
  cases ck h1 d with
  | false => rfl
  | true =>
    dsimp only [iffF]
    rw [mBind_on]
    refine congrArg (onR (ms ρ h1)) ?_
    funext ds h2
    cases f h2 d ds <;> rfl
noncomputable def zFAppend (h : Hs) (d : D) (ds : List D) : Option (D × Hs) := onBox d (fun n => Option.rec (motive := fun _ => Option (D × Hs)) none (fun o => O.rec (motive := fun _ => Option (D × Hs)) (fun es => List.rec (motive := fun _ => Option (D × Hs)) none (fun x r _ => List.rec (motive := fun _ => Option (D × Hs)) (iffF (Nat.ble (Nat.add (lenF es) 1) 1000000) (onSome (h.set n (.lst (appS es [x]))) fun h' => some (.non, h')) none) (fun _ _ _ => none) r) ds) (fun _ _ _ => none) (fun _ _ => none) (fun _ _ => none) (fun _ _ => none) o) (h.get n)) none
theorem q_fAppend : fAppend = zFAppend := by
  funext h d ds
  unfold zFAppend
  cases d <;> first | (unfold fAppend; rfl) | skip
  rename_i n
  show fAppend h (.box n) ds = Option.rec (motive := fun _ => Option (D × Hs)) none (fun o => O.rec (motive := fun _ => Option (D × Hs)) (fun es => List.rec (motive := fun _ => Option (D × Hs)) none (fun x r _ => List.rec (motive := fun _ => Option (D × Hs)) (iffF (Nat.ble (Nat.add (lenF es) 1) 1000000) (onSome (h.set n (.lst (appS es [x]))) fun h' => some (.non, h')) none) (fun _ _ _ => none) r) ds) (fun _ _ _ => none) (fun _ _ => none) (fun _ _ => none) (fun _ _ => none) o) (h.get n)
  cases ds with
  | nil =>
    show none = _
    cases h.get n with
    | none => rfl
    | some o => cases o <;> rfl
  | cons x r =>
    cases r with
    | cons y t =>
      show none = _
      cases h.get n with
      | none => rfl
      | some o => cases o <;> rfl
    | nil =>
      unfold fAppend
      dsimp only
      cases h.get n with
      | none => rfl
      | some o =>
        cases o <;> first | rfl | skip
        rename_i es
        show (if es.length < 1000000 then (match h.set n (.lst (es ++ [x])) with | some h' => some (D.non, h') | none => none) else none) = iffF (Nat.ble (Nat.add (lenF es) 1) 1000000) (onSome (h.set n (.lst (appS es [x]))) fun h' => some (D.non, h')) none
        have L : Nat.add (lenF es) 1 = es.length + 1 := congrArg (· + 1) (lenF_eq es)
        rw [iffF_le, L, appS_eq]
        have e : (match h.set n (.lst (es ++ [x])) with | some h' => some (D.non, h') | none => none) = onSome (h.set n (.lst (es ++ [x]))) fun h' => some (D.non, h') := by cases h.set n (.lst (es ++ [x])) <;> rfl
        rw [e]; rfl
end Rh

set_option Elab.async false
set_option linter.all false
set_option maxRecDepth 100000
set_option maxHeartbeats 2000000
set_option autoImplicit false
/-! The boxes that a whole law draws from. -/
namespace Rh
open PySem PySem.Spec PyProof.Rows L2
variable [Tbs]
theorem mLst_ok {ms : M (List D)} {ρ : En} {h h1 h2 : Hs} {ds : List D} (e : ms ρ h = some (.ok ds h1)) (hl : ds.length ≤ 1000000) (e2 : h1.new (.lst ds) = some h2) : mLst ms ρ h = some (.ok (.box h1.n) h2) := by
  unfold mLst mDisp mBind
  rw [e]; dsimp only
  rw [if_pos hl]
  unfold Nv.lift; dsimp only; rw [e2]
theorem dInt1_int {h : Hs} {i : Int} : dInt1 h [.int i] = some (.v (.int i)) := rfl
theorem dFdv_int {h : Hs} {i j : Int} (hj : 0 < j) (hl : j.natAbs.log2 < 9000) : dFdv h (.int i) (.int j) = some (.v (.int (i / j))) := by
  show (if decide (0 < j ∧ j.natAbs.log2 < 9000) = true then some (Nv.v (.int (i / j))) else none) = _
  rw [if_pos (decide_eq_true ⟨hj, hl⟩)]
theorem okMul_small {i j : Int} {m n : Nat} (h1 : Builtin.Int.intBits i ≤ m) (h2 : Builtin.Int.intBits j ≤ n) (h3 : m + n ≤ 134217728) : okMul i j = true := okMul_of (by omega)
def mBox (c0 : Int) : MS := mSeq (mSet 2 (mIf (mB (mOp2 dLt (mVar 1) (mOpA dLenA (mCons (mVar 0) mNil)))) (mOp2 dIx (mVar 0) (mVar 1)) (mCon (.int 0)))) (mSeq (mRet (mLst (mCons (mOp2 dMulW (mOpA dAbs (mCons (mVar 2) mNil)) (mOpA dInt1 (mCons (mOp2 dGe (mOpA dAbs (mCons (mVar 2) mNil)) (mOp2 dPow (mCon (.int 10)) (mCon (.int 18)))) mNil))) (mCons (mOp2 dAdd (mOp2 dAdd (mOp2 dMod (mOpA dInt1 (mCons (mVar 2) mNil)) (mCon (.int 2305843009213693951))) (mOp2 dMulW (mCon (.int 39373)) (mVar 1))) (mCon (.int c0))) (mCons (mCon (.int 0)) mNil))))) mNx)
theorem box_ok {c0 c : Int} {r : List Int} {b : Nat} {h : Hs} (g : h.get b = some (.lst ((c :: r).map .int))) (hb : Builtin.Int.intBits c ≤ 100000000) (hn : h.n < 1000000) :
    ∃ h' x, runDef 3 (mBox c0) [.box b, .int 0] h = some (.rt (.box h.n) h') ∧ h.new (.lst [.int x, .int (c % 2305843009213693951 + 39373 * 0 + c0), .int 0]) = some h' ∧ 0 ≤ x := by
  have e1 : dLenA h [.box b] = some (.v (.int ((r.length + 1 : Nat) : Int))) := by
    unfold dLenA dLen seqD
    simp only [lstD, g, Option.map_some, List.length_map, List.length_cons]
  have e2 : dLt h (.int 0) (.int ((r.length + 1 : Nat) : Int)) = some (.v (.bl true)) := by
    show some (Nv.v (.bl (decide ((0 : Int) < ((r.length + 1 : Nat) : Int))))) = _
    rw [decide_eq_true (by omega)]
  have e3 : dIx h (.box b) (.int 0) = some (.v (.int c)) := dIx_lst g atI_zero
  have e4 : dAbs h [.int c] = some (.v (.int (if c < 0 then -c else c))) := rfl
  have e5 : dPow h (.int 10) (.int 18) = some (.v (.int (10 ^ 18))) := rfl
  have e6 : ∀ a : Int, dGe h (.int a) (.int (10 ^ 18)) = some (.v (.bl (decide ((10 ^ 18 : Int) ≤ a)))) := fun _ => rfl
  have e7 : ∀ q : Bool, dInt1 h [.bl q] = some (.v (.int (if q = true then 1 else 0))) := fun q => by cases q <;> rfl
  have ab : Builtin.Int.intBits (if c < 0 then -c else c) ≤ 100000000 := by
    split
    · exact intBits_neg_le hb
    · exact hb
  have e8 : ∀ q : Bool, dMulW h (.int (if c < 0 then -c else c)) (.int (if q = true then 1 else 0)) = some (.v (.int ((if c < 0 then -c else c) * (if q = true then 1 else 0)))) := fun q => dMulW_int (okMul_small (n := 1) ab (by cases q <;> decide) (by omega))
  have e9 : dMod h (.int c) (.int 2305843009213693951) = some (.v (.int (c % 2305843009213693951))) := dMod_int (by decide)
  have e10 : dMulW h (.int 39373) (.int 0) = some (.v (.int (39373 * 0))) := dMulW_int (okMul_small (m := 64) (n := 64) (by decide) (by decide) (by omega))
  generalize hq : decide ((10 ^ 18 : Int) ≤ if c < 0 then -c else c) = q at *
  obtain ⟨h', n1⟩ := Hs.new_some h (.lst [.int ((if c < 0 then -c else c) * (if q = true then 1 else 0)), .int (c % 2305843009213693951 + 39373 * 0 + c0), .int 0]) hn
  refine ⟨h', _, ?_, n1, ?_⟩
  · refine runDef_rt ?_
    show mBox c0 [some (.box b), some (.int 0), none] h = _
    unfold mBox
    have s1 : (mIf (mB (mOp2 dLt (mVar 1) (mOpA dLenA (mCons (mVar 0) mNil)))) (mOp2 dIx (mVar 0) (mVar 1)) (mCon (.int 0))) [some (.box b), some (.int 0), none] h = some (.ok (.int c) h) := by
      refine (mIf_ok (mB_ok (mOp2_ok (mVar_ok (d := .int 0) rfl) (mOpA1_ok (mVar_ok (d := .box b) rfl) e1) e2))).trans ?_
      rw [if_pos rfl]
      exact mOp2_ok (mVar_ok rfl) (mVar_ok rfl) e3
    rw [mSeq_nx (mSet_ok s1)]
    refine mSeq_rt (mRet_ok (mLst_ok (mCons_ok (mOp2_ok (mOpA1_ok (mVar_ok (d := .int c) rfl) e4) (mOpA1_ok (mOp2_ok (mOpA1_ok (mVar_ok (d := .int c) rfl) e4) (mOp2_ok mCon_ok mCon_ok e5) (d := .bl q) ?_) (e7 q)) (e8 q)) (mCons_ok (mOp2_ok (mOp2_ok (mOp2_ok (mOpA1_ok (mVar_ok (d := .int c) rfl) dInt1_int) mCon_ok e9) (mOp2_ok mCon_ok (mVar_ok (d := .int 0) rfl) e10) dAdd_int) mCon_ok dAdd_int) (mCons_ok mCon_ok mNil_ok))) (show (3 : Nat) ≤ 1000000 by omega) n1))
    rw [e6, hq]
  · split <;> split <;> omega
def mTake : MS := mSeq (mIfS (mB (mOp2 dGt (mOp2 dIx (mVar 0) (mCon (.int 0))) (mCon (.int 0)))) (mSeq (mSet 5 (mOp2 dMod (mOpA dInt1 (mCons (mOp2 dIx (mVar 0) (mCon (.int 0))) mNil)) (mVar 1)))
    (mSeq (mAsg (tSub (mVar 0) (mCon (.int 0))) (mOp2 dFdv (mOp2 dIx (mVar 0) (mCon (.int 0))) (mVar 1)))
    (mSeq (mRet (mVar 5))
    mNx))) mNx)
    (mSeq (mAsg (tSub (mVar 0) (mCon (.int 2))) (mOp2 dAdd (mOp2 dIx (mVar 0) (mCon (.int 2))) (mCon (.int 1))))
    (mSeq (mSet 2 (mOp2 dMod (mOpA dInt1 (mCons (mOp2 dMulW (mOp2 dAdd (mOp2 dIx (mVar 0) (mCon (.int 1))) (mOp2 dMulW (mCon (.int 48271)) (mOp2 dIx (mVar 0) (mCon (.int 2))))) (mOp2 dAdd (mCon (.int 39373)) (mOp2 dIx (mVar 0) (mCon (.int 2))))) mNil)) (mCon (.int 2147483647))))
    (mSeq (mSet 3 (mOp2 dAdd (mOp2 dMod (mOpA dInt1 (mCons (mVar 2) mNil)) (mCon (.int 40009))) (mCon (.int 7))))
    (mSeq (mSet 4 (mOp2 dMod (mOpA dInt1 (mCons (mOp2 dMulW (mOp2 dAdd (mOp2 dAdd (mVar 2) (mOp2 dIx (mVar 0) (mCon (.int 2)))) (mOp2 dFdv (mOp2 dIx (mVar 0) (mCon (.int 1))) (mCon (.int 1000003)))) (mVar 3)) mNil)) (mCon (.int 2147483629))))
    (mSeq (mRet (mOp2 dMod (mOpA dInt1 (mCons (mOp2 dFdv (mOp2 dMod (mOpA dInt1 (mCons (mOp2 dAdd (mOp2 dMulW (mVar 4) (mCon (.int 48271))) (mVar 2)) mNil)) (mCon (.int 2147483587))) (mCon (.int 64))) mNil)) (mVar 1)))
    mNx)))))

theorem bits64 {i : Int} (h0 : 0 ≤ i) (h1 : i < 18446744073709551616) : Builtin.Int.intBits i ≤ 64 := intBits_le_iff.mpr (by
  have : (2 : Nat) ^ 64 = 18446744073709551616 := by decide
  rw [this]; omega)
/-- drawing: a number below `low`, the box changed in its first and last place alone -/
theorem take_ok {b : Nat} {h : Hs} {x y z low : Int} (g : h.get b = some (.lst [.int x, .int y, .int z])) (hb : b < 1000000) (hk : b ∉ h.lk) (hx : 0 ≤ x) (hy : 0 ≤ y) (hy2 : y < 4611686018427387904) (hz : 0 ≤ z) (hz2 : z < 1000000) (hl : 0 < low) (hl2 : low < 1000000) :
    ∃ (t x' z' : Int) (h' : Hs), runDef 6 mTake [.box b, .int low] h = some (.rt (.int t) h') ∧ 0 ≤ t ∧ t < low ∧ h.set b (.lst [.int x', .int y, .int z']) = some h' ∧ 0 ≤ x' ∧ z ≤ z' ∧ z' ≤ z + 1 := by
  have i0 : ∀ {h1 : Hs} {x y z : Int}, h1.get b = some (.lst [.int x, .int y, .int z]) → dIx h1 (.box b) (.int 0) = some (.v (.int x)) := fun g => dIx_lst g atI_zero
  have i1 : ∀ {h1 : Hs} {x y z : Int}, h1.get b = some (.lst [.int x, .int y, .int z]) → dIx h1 (.box b) (.int 1) = some (.v (.int y)) := fun g => dIx_lst g rfl
  have i2 : ∀ {h1 : Hs} {x y z : Int}, h1.get b = some (.lst [.int x, .int y, .int z]) → dIx h1 (.box b) (.int 2) = some (.v (.int z)) := fun g => dIx_lst g rfl
  have henv : envOf 6 [.box b, .int low] = [some (.box b), some (.int low), none, none, none, none] := rfl
  have gt : dGt h (.int x) (.int 0) = some (.v (.bl (decide ((0 : Int) < x)))) := rfl
  have cnd : (mB (mOp2 dGt (mOp2 dIx (mVar 0) (mCon (.int 0))) (mCon (.int 0)))) [some (.box b), some (.int low), none, none, none, none] h = some (.ok (decide ((0 : Int) < x)) h) := mB_ok (mOp2_ok (mOp2_ok (mVar_ok (d := .box b) rfl) mCon_ok (i0 g)) mCon_ok gt)
  by_cases p : (0 : Int) < x
  · rw [decide_eq_true p] at cnd
    obtain ⟨h', e'⟩ := Hs.set_some h (.lst [.int (x / low), .int y, .int z]) b hb hk
    refine ⟨x % low, x / low, z, h', ?_, Int.emod_nonneg _ (by omega), Int.emod_lt_of_pos _ hl, e', Int.ediv_nonneg hx (by omega), by omega, by omega⟩
    refine runDef_rt ?_
    rw [henv]
    unfold mTake
    refine mSeq_rt ?_
    refine (mIfS_ok cnd).trans ?_
    rw [if_pos rfl]
    have a1 : (mOp2 dMod (mOpA dInt1 (mCons (mOp2 dIx (mVar 0) (mCon (.int 0))) mNil)) (mVar 1)) [some (.box b), some (.int low), none, none, none, none] h = some (.ok (.int (x % low)) h) :=
      mOp2_ok (mOpA1_ok (mOp2_ok (mVar_ok (d := .box b) rfl) mCon_ok (i0 g)) dInt1_int) (mVar_ok (d := .int low) rfl) (dMod_int hl)
    rw [mSeq_nx (mSet_ok a1)]
    have lg : low.natAbs.log2 < 9000 := by
      have h2 : low.natAbs < 2 ^ 20 := by
        have : (2 : Nat) ^ 20 = 1048576 := by decide
        omega
      have := (Nat.log2_lt (n := low.natAbs) (k := 20) (by omega)).mpr h2
      omega
    have a2 : ∀ ρ : En, ρ[0]? = some (some (.box b)) → ρ[1]? = some (some (.int low)) → mAsg (tSub (mVar 0) (mCon (.int 0))) (mOp2 dFdv (mOp2 dIx (mVar 0) (mCon (.int 0))) (mVar 1)) ρ h = some (.nx ρ h') := fun ρ r0 r1 =>
      mAsg_ok (mOp2_ok (mOp2_ok (mVar_ok (d := .box b) r0) mCon_ok (i0 g)) (mVar_ok (d := .int low) r1) (dFdv_int hl lg)) (tSub_ok (mVar_ok (d := .box b) r0) mCon_ok (putD_lst g (j := 0) rfl e'))
    rw [mSeq_nx (a2 _ rfl rfl)]
    exact mSeq_rt (mRet_ok (mVar_ok rfl))
  · have x0 : x = 0 := by omega
    rw [decide_eq_false p] at cnd
    obtain ⟨h', e'⟩ := Hs.set_some h (.lst [.int x, .int y, .int (z + 1)]) b hb hk
    have g' : h'.get b = some (.lst [.int x, .int y, .int (z + 1)]) := by rw [(Hs.set_ok e').2.2.2, if_pos rfl]
    generalize z1 : z + 1 = w at *
    have w0 : 0 ≤ w := by omega
    have w1 : w ≤ 1000000 := by omega
    generalize o1 : (y + 48271 * w) * (39373 + w) % 2147483647 = once
    have o2 : 0 ≤ once ∧ once < 2147483647 := by
      rw [← o1]; exact ⟨Int.emod_nonneg _ (by decide), Int.emod_lt_of_pos _ (by decide)⟩
    generalize f1 : once % 40009 + 7 = far
    have f2 : 0 ≤ far ∧ far < 50000 := by omega
    generalize t1 : (once + w + y / 1000003) * far % 2147483629 = tw
    have t2 : 0 ≤ tw ∧ tw < 2147483629 := by
      rw [← t1]; exact ⟨Int.emod_nonneg _ (by decide), Int.emod_lt_of_pos _ (by decide)⟩
    refine ⟨(tw * 48271 + once) % 2147483587 / 64 % low, x, w, h', ?_, Int.emod_nonneg _ (by omega), Int.emod_lt_of_pos _ hl, e', hx, by omega, by omega⟩
    refine runDef_rt ?_
    rw [henv]
    unfold mTake
    rw [mSeq_nx ((mIfS_ok cnd).trans (by rw [if_neg (by decide)]; rfl))]
    have b1 : ∀ ρ : En, ρ[0]? = some (some (.box b)) → mAsg (tSub (mVar 0) (mCon (.int 2))) (mOp2 dAdd (mOp2 dIx (mVar 0) (mCon (.int 2))) (mCon (.int 1))) ρ h = some (.nx ρ h') := fun ρ r0 =>
      mAsg_ok (mOp2_ok (mOp2_ok (mVar_ok (d := .box b) r0) mCon_ok (i2 g)) mCon_ok (dAdd_int.trans (by rw [z1]))) (tSub_ok (mVar_ok (d := .box b) r0) mCon_ok (putD_lst g (j := 2) rfl e'))
    rw [mSeq_nx (b1 _ rfl)]
    have m1 : dMulW h' (.int 48271) (.int w) = some (.v (.int (48271 * w))) := dMulW_int (okMul_small (bits64 (by decide) (by decide)) (bits64 w0 (by omega)) (by omega))
    have m2 : dMulW h' (.int (y + 48271 * w)) (.int (39373 + w)) = some (.v (.int ((y + 48271 * w) * (39373 + w)))) := dMulW_int (okMul_small (bits64 (by omega) (by omega)) (bits64 (by omega) (by omega)) (by omega))
    have s2 : ∀ ρ : En, ρ[0]? = some (some (.box b)) → mOp2 dMod (mOpA dInt1 (mCons (mOp2 dMulW (mOp2 dAdd (mOp2 dIx (mVar 0) (mCon (.int 1))) (mOp2 dMulW (mCon (.int 48271)) (mOp2 dIx (mVar 0) (mCon (.int 2))))) (mOp2 dAdd (mCon (.int 39373)) (mOp2 dIx (mVar 0) (mCon (.int 2))))) mNil)) (mCon (.int 2147483647)) ρ h' = some (.ok (.int once) h') := fun ρ r0 =>
      mOp2_ok (mOpA1_ok (mOp2_ok (mOp2_ok (mOp2_ok (mVar_ok (d := .box b) r0) mCon_ok (i1 g')) (mOp2_ok mCon_ok (mOp2_ok (mVar_ok (d := .box b) r0) mCon_ok (i2 g')) m1) dAdd_int) (mOp2_ok mCon_ok (mOp2_ok (mVar_ok (d := .box b) r0) mCon_ok (i2 g')) dAdd_int) m2) dInt1_int) mCon_ok ((dMod_int (by decide)).trans (by rw [o1]))
    rw [mSeq_nx (mSet_ok (s2 _ rfl))]
    have s3 : ∀ ρ : En, ρ[2]? = some (some (.int once)) → mOp2 dAdd (mOp2 dMod (mOpA dInt1 (mCons (mVar 2) mNil)) (mCon (.int 40009))) (mCon (.int 7)) ρ h' = some (.ok (.int far) h') := fun ρ r2 =>
      mOp2_ok (mOp2_ok (mOpA1_ok (mVar_ok (d := .int once) r2) dInt1_int) mCon_ok (dMod_int (by decide))) mCon_ok (dAdd_int.trans (by rw [f1]))
    rw [mSeq_nx (mSet_ok (s3 _ rfl))]
    have yd : 0 ≤ y / 1000003 ∧ y / 1000003 ≤ y := ⟨Int.ediv_nonneg hy (by decide), Int.ediv_le_self _ hy⟩
    have m3 : dMulW h' (.int (once + w + y / 1000003)) (.int far) = some (.v (.int ((once + w + y / 1000003) * far))) := dMulW_int (okMul_small (bits64 (by omega) (by omega)) (bits64 f2.1 (by omega)) (by omega))
    have s4 : ∀ ρ : En, ρ[0]? = some (some (.box b)) → ρ[2]? = some (some (.int once)) → ρ[3]? = some (some (.int far)) → mOp2 dMod (mOpA dInt1 (mCons (mOp2 dMulW (mOp2 dAdd (mOp2 dAdd (mVar 2) (mOp2 dIx (mVar 0) (mCon (.int 2)))) (mOp2 dFdv (mOp2 dIx (mVar 0) (mCon (.int 1))) (mCon (.int 1000003)))) (mVar 3)) mNil)) (mCon (.int 2147483629)) ρ h' = some (.ok (.int tw) h') := fun ρ r0 r2 r3 =>
      mOp2_ok (mOpA1_ok (mOp2_ok (mOp2_ok (mOp2_ok (mVar_ok (d := .int once) r2) (mOp2_ok (mVar_ok (d := .box b) r0) mCon_ok (i2 g')) dAdd_int) (mOp2_ok (mOp2_ok (mVar_ok (d := .box b) r0) mCon_ok (i1 g')) mCon_ok (dFdv_int (by decide) (by decide))) dAdd_int) (mVar_ok (d := .int far) r3) m3) dInt1_int) mCon_ok ((dMod_int (by decide)).trans (by rw [t1]))
    rw [mSeq_nx (mSet_ok (s4 _ rfl rfl rfl))]
    have m4 : dMulW h' (.int tw) (.int 48271) = some (.v (.int (tw * 48271))) := dMulW_int (okMul_small (bits64 t2.1 (by omega)) (bits64 (by decide) (by decide)) (by omega))
    have s5 : ∀ ρ : En, ρ[1]? = some (some (.int low)) → ρ[2]? = some (some (.int once)) → ρ[4]? = some (some (.int tw)) → mOp2 dMod (mOpA dInt1 (mCons (mOp2 dFdv (mOp2 dMod (mOpA dInt1 (mCons (mOp2 dAdd (mOp2 dMulW (mVar 4) (mCon (.int 48271))) (mVar 2)) mNil)) (mCon (.int 2147483587))) (mCon (.int 64))) mNil)) (mVar 1) ρ h' = some (.ok (.int ((tw * 48271 + once) % 2147483587 / 64 % low)) h') := fun ρ r1 r2 r4 =>
      mOp2_ok (mOpA1_ok (mOp2_ok (mOp2_ok (mOpA1_ok (mOp2_ok (mOp2_ok (mVar_ok (d := .int tw) r4) mCon_ok m4) (mVar_ok (d := .int once) r2) dAdd_int) dInt1_int) mCon_ok (dMod_int (by decide))) mCon_ok (dFdv_int (by decide) (by decide))) dInt1_int) (mVar_ok (d := .int low) r1) (dMod_int hl)
    exact mSeq_rt (mRet_ok (s5 _ rfl rfl rfl))
end Rh

set_option Elab.async false
set_option linter.all false
set_option maxRecDepth 100000
set_option maxHeartbeats 2000000
set_option autoImplicit false
/-! The cells again, with how long they are. -/
namespace Rh
open PySem PySem.Spec PyProof.Rows L2
variable [Tbs]
theorem cell_stepB {top : Nat} (ht : 1 ≤ top) (sc : D) (b : Nat) (hb : b < 1000000) {z : Int} {k : Nat} (hz : Builtin.Int.intBits z ≤ 1048576) (hk : k ≤ 900) {cs : List Int} (hcs : cs.length = top) {h : Hs} (hg : h.get b = some (.lst (cs.map .int))) (hl : b ∉ h.lk) (x5 : Option D) {B : Nat} (hB : ∀ c ∈ cs, Builtin.Int.intBits c ≤ B) (hB0 : 1048586 ≤ B) :
    ∃ h' c5, mCellBody [some sc, some (.int top), some (.box b), some (.int k), some (.int z), x5] h = some (.nx [some sc, some (.int top), some (.box b), some (.int k), some (.int z), c5] h') ∧
      ∃ cs' : List Int, cs'.length = top ∧ h'.get b = some (.lst (cs'.map .int)) ∧ (∀ j, j ≠ b → h'.get j = h.get j) ∧ h'.n = h.n ∧ h'.lk = h.lk ∧ ∀ c ∈ cs', Builtin.Int.intBits c ≤ B + 1 := by
  have hm0 : (0 : Int) ≤ (k : Int) % (top : Int) := Int.emod_nonneg _ (by omega)
  have hm1 : (k : Int) % (top : Int) < top := Int.emod_lt_of_pos _ (by omega)
  obtain ⟨j, hj⟩ := Int.eq_ofNat_of_zero_le hm0
  have hjl : j < top := by omega
  have hix : ixN (cs.map D.int).length ((j : Nat) : Int) = some j := by
    unfold ixN
    rw [if_pos (by omega), if_pos (by rw [List.length_map, hcs]; omega)]
    simp
  have hat : atI (cs.map D.int) ((j : Nat) : Int) = some (.int cs[j]) := by
    unfold atI
    rw [hix]
    simp
  have hk10 : Builtin.Int.intBits ((k : Int) + 2) ≤ 10 := intBits_le_iff.mpr (by
    have : (2 : Nat) ^ 10 = 1024 := by decide
    rw [this]; omega)
  have bnd : ∀ c ∈ cs.set j (cs[j] + z * ((k : Int) + 2)), Builtin.Int.intBits c ≤ B + 1 := fun c hc => by
    rcases List.mem_or_eq_of_mem_set hc with hc | rfl
    · exact Nat.le_succ_of_le (hB c hc)
    · have q1 := intBits_mul_le hz hk10
      have q2 := intBits_add_le (hB _ (List.getElem_mem (by omega : j < cs.length))) q1
      omega
  have hbit := bits_small (c := (k : Int) + 2) hz (by omega) (by omega)
  obtain ⟨h', e'⟩ := Hs.set_some h (.lst ((cs.map D.int).set j (.int (cs[j] + z * ((k : Int) + 2))))) b hb hl
  refine ⟨h', some (.int (j : Nat)), ?_, cs.set j (cs[j] + z * ((k : Int) + 2)), by rw [List.length_set]; exact hcs, ?_, ?_, (Hs.set_ok e').2.2.1, (Hs.set_ok e').2.1, bnd⟩
  · have e1 : dMod h (.int k) (.int top) = some (.v (.int j)) := by rw [dMod_int (by omega), hj]
    have e2 : dIx h (.box b) (.int (j : Nat)) = some (.v (.int cs[j])) := dIx_lst hg hat
    have e3 : dMulW h (.int z) (.int ((k : Int) + 2)) = some (.v (.int (z * ((k : Int) + 2)))) := dMulW_int (okMul_of hbit)
    have e4 : putD h (.box b) (.int (j : Nat)) (.int (cs[j] + z * ((k : Int) + 2))) = some h' := putD_lst hg hix e'
    have e5 : dAdd h (.int k) (.int 2) = some (.v (.int ((k : Int) + 2))) := dAdd_int
    have e6 : dAdd h (.int cs[j]) (.int (z * ((k : Int) + 2))) = some (.v (.int (cs[j] + z * ((k : Int) + 2)))) := dAdd_int
    unfold mCellBody
    rw [mSeq_nx (mSet_ok (mOp2_ok (mOpA1_ok (mVar_ok (d := .int k) rfl) (show dInt1 h [.int k] = some (.v (.int k)) from rfl)) (mVar_ok (d := .int top) rfl) e1)),
      mSeq_nx (mAsg_ok (mOp2_ok (mOp2_ok (mVar_ok (d := .box b) rfl) (mVar_ok (d := .int (j : Nat)) rfl) e2) (mOp2_ok (mVar_ok (d := .int z) rfl) (mOp2_ok (mVar_ok (d := .int k) rfl) (show mCon (.int 2) _ h = some (.ok (.int 2) h) from rfl) e5) e3) e6) (tSub_ok (mVar_ok (d := .box b) rfl) (mVar_ok (d := .int (j : Nat)) rfl) e4))]
    rfl
  · rw [(Hs.set_ok e').2.2.2, if_pos rfl, List.map_set]
  · intro i hi
    rw [(Hs.set_ok e').2.2.2, if_neg hi]
theorem cell_loopB {top : Nat} (ht : 1 ≤ top) (sc : D) (b : Nat) (hb : b < 1000000) : ∀ (ns : List Int) (k : Nat) (cs : List Int) (h : Hs) (x3 x4 x5 : Option D) (B : Nat), (∀ c ∈ cs, Builtin.Int.intBits c ≤ B) → 1048586 ≤ B → (∀ z ∈ ns, Builtin.Int.intBits z ≤ 1048576) → k + ns.length ≤ 900 → cs.length = top → h.get b = some (.lst (cs.map .int)) → b ∉ h.lk →
    ∃ h' x3' x4' x5', loopF (tTup 2 (tsCons (tName 3) (tsCons (tName 4) tsNil))) mCellBody (enumD k (ns.map .int)) [some sc, some (.int top), some (.box b), x3, x4, x5] h = some (.nx [some sc, some (.int top), some (.box b), x3', x4', x5'] h') ∧
      ∃ cs' : List Int, cs'.length = top ∧ h'.get b = some (.lst (cs'.map .int)) ∧ (∀ j, j ≠ b → h'.get j = h.get j) ∧ h'.n = h.n ∧ h'.lk = h.lk ∧ ∀ c ∈ cs', Builtin.Int.intBits c ≤ B + ns.length
  | [], k, cs, h, x3, x4, x5, B, hB, hB0, _, _, hcs, hg, _ => ⟨h, x3, x4, x5, rfl, cs, hcs, hg, fun _ _ => rfl, rfl, rfl, hB⟩
  | z :: ns, k, cs, h, x3, x4, x5, B, hB, hB0, hz, hk, hcs, hg, hl => by
    have hk : k + (ns.length + 1) ≤ 900 := hk
    obtain ⟨h1, c5, e1, cs1, l1, g1, o1, n1, k1, bb1⟩ := cell_stepB ht sc b hb (hz z (List.mem_cons_self ..)) (by omega : k ≤ 900) hcs hg hl x5 hB hB0
    obtain ⟨h2, y3, y4, y5, e2, cs2, l2, g2, o2, n2, k2, bb2⟩ := cell_loopB ht sc b hb ns (k + 1) cs1 h1 (some (.int k)) (some (.int z)) c5 (B + 1) bb1 (by omega) (fun y hy => hz y (List.mem_cons_of_mem _ hy)) (by omega) l1 g1 (by rw [k1]; exact hl)
    refine ⟨h2, y3, y4, y5, ?_, cs2, l2, g2, fun j hj => (o2 j hj).trans (o1 j hj), n2.trans n1, k2.trans k1, fun c hc => by have := bb2 c hc; simp only [List.length_cons]; omega⟩
    have et : (tTup 2 (tsCons (tName 3) (tsCons (tName 4) tsNil))) (.tup [.int k, .int z]) [some sc, some (.int top), some (.box b), x3, x4, x5] h = some ([some sc, some (.int top), some (.box b), some (.int k), some (.int z), x5], h) := rfl
    show loopF _ _ (.tup [.int k, .int z] :: enumD ((k : Int) + 1) (ns.map .int)) _ h = _
    unfold loopF
    rw [et]
    dsimp only
    rw [e1]
    dsimp only
    have : ((k + 1 : Nat) : Int) = (k : Int) + 1 := by omega
    rw [this] at e2
    exact e2
theorem cells_okB {top : Nat} (ht : 1 ≤ top) (ht2 : top ≤ 63) (ns : List Int) (hn : ns.length ≤ 63) (hb : ∀ z ∈ ns, Builtin.Int.intBits z ≤ 1048576) (h : Hs) (hh : h.n < 900000) (hk : h.lk = []) (sc : D) (hs : sc = .scr (ns.map .int) ∨ ∃ b0, sc = .box b0 ∧ b0 < h.n ∧ h.get b0 = some (.lst (ns.map .int))) :
    ∃ b h' cs, runDef 6 mCells [sc, .int top] h = some (.rt (.box b) h') ∧ h'.get b = some (.lst (List.map D.int cs)) ∧ 1 ≤ cs.length ∧ h'.lk = [] ∧ h'.n < 900010 ∧ b < h'.n ∧ ∀ c ∈ cs, Builtin.Int.intBits c ≤ 2000000 := by
  have hlen : (ns.map D.int).length = ns.length := List.length_map ..
  have nl : sc ≠ .lm := by rcases hs with rfl | ⟨_, rfl, _⟩ <;> exact fun z => nomatch z
  have hsl : ∀ (h' : Hs) (lo hi : Option Int), (∀ j, j < h.n → h'.get j = h.get j) → dSl h' sc lo hi = some (.n (.lst (cutD (ns.map .int) lo hi))) := fun h' lo hi hj => by
    rcases hs with rfl | ⟨b0, rfl, hb0, hg0⟩
    · rfl
    · unfold dSl lstD
      simp only [hj b0 hb0, hg0, Option.map_some]
  -- script[:top]
  have ec : cutD (ns.map D.int) none (some (top : Int)) = (ns.take top).map D.int := by
    unfold cutD
    rw [HT.sIx_none, HT.sIx_nat, hlen, List.drop_zero, Nat.sub_zero, List.map_take]
    by_cases q : top ≤ ns.length
    · rw [Nat.min_eq_left q]
    · rw [Nat.min_eq_right (by omega), List.take_of_length_le (by simp), List.take_of_length_le (by simp; omega)]
  have ec2 : cutD (ns.map D.int) (some (top : Int)) (some 63) = (ns.drop top).map D.int := by
    unfold cutD
    rw [HT.sIx_nat, show (63 : Int) = ((63 : Nat) : Int) from rfl, HT.sIx_nat, hlen]
    by_cases q : top ≤ ns.length
    · rw [Nat.min_eq_left q, Nat.min_eq_right hn, List.take_of_length_le (by simp), List.map_drop]
    · rw [Nat.min_eq_right (by omega : ns.length ≤ top), Nat.min_eq_right hn, Nat.sub_self, List.take_zero, List.drop_eq_nil_of_le (by omega : ns.length ≤ top)]; rfl
  obtain ⟨h1, e1⟩ := Hs.new_some h (.lst ((ns.take top).map D.int)) (by omega)
  have g1 : h1.get h.n = some (.lst ((ns.take top).map D.int)) := by rw [Hs.new_get e1, if_pos rfl]
  have n1 := Hs.new_n e1
  obtain ⟨h2, e2⟩ := Hs.new_some h1 (.lst ((ns.take top).map D.int)) (by omega)
  have g2 : h2.get h1.n = some (.lst ((ns.take top).map D.int)) := by rw [Hs.new_get e2, if_pos rfl]
  have n2 := Hs.new_n e2
  -- the box of the cells
  have first : ∃ b h3 cs, (mSet 2 (mOrV (mOpA dListA (mCons (mSl (mVar 0) (mPure none) (mPart (mVar 1))) mNil)) (mLst (mCons (mCon (.int 0)) mNil)))) [some sc, some (.int top), none, none, none, none] h = some (.nx [some sc, some (.int top), some (.box b), none, none, none] h3) ∧
      h3.get b = some (.lst (List.map D.int cs)) ∧ 1 ≤ cs.length ∧ (ns.drop top ≠ [] → cs.length = top) ∧ h3.n ≤ h.n + 3 ∧ b < h3.n ∧ h3.lk = [] ∧ (∀ j, j < h.n → h3.get j = h.get j) ∧ ∀ c ∈ cs, Builtin.Int.intBits c ≤ 1048586 := by
    have d1 : dSl h sc none (some (top : Int)) = some (.n (.lst ((ns.take top).map D.int))) := by
      rw [← ec]; exact hsl h _ _ fun _ _ => rfl
    have d2 : dListA h1 [.box h.n] = some (.n (.lst ((ns.take top).map D.int))) := by
      unfold dListA dList seqD
      simp only [lstD, g1, Option.map_some]
    have o2 : ∀ j, j < h.n → h2.get j = h.get j := fun j hj => by rw [Hs.new_get e2, if_neg (by omega), Hs.new_get e1, if_neg (by omega)]
    have k2 : h2.lk = [] := (Hs.new_lk e2).trans ((Hs.new_lk e1).trans hk)
    by_cases q : ns.take top = []
    · obtain ⟨h3, e3⟩ := Hs.new_some h2 (.lst [.int 0]) (by omega)
      refine ⟨h2.n, h3, [0], ?_, by rw [Hs.new_get e3, if_pos rfl]; rfl, by simp, fun z => ?_, by rw [Hs.new_n e3]; omega, by rw [Hs.new_n e3]; omega, (Hs.new_lk e3).trans k2, fun j hj => by rw [Hs.new_get e3, if_neg (by omega)]; exact o2 j hj, fun c hc => by cases List.mem_singleton.mp hc; decide⟩
      · have t0 : truthD h2 (.box h1.n) = some false := by
          unfold truthD
          simp only [g2, q, List.map_nil, List.isEmpty_nil, Bool.not_true]
        simp only [mSet, mDo, mOrV, mOpA, mCons, mNil, mSl, mPart, mBind, mVar, okS_ok nl, okS, mCon, mPure, mLst, mDisp, List.getElem?_cons_zero, List.getElem?_cons_succ, lift, Nv.lift, d1, e1, d2, e2, t0, e3, List.set_cons_zero, List.set_cons_succ]
        rfl
      · exfalso
        rw [List.take_eq_nil_iff] at q
        rcases q with q | q
        · omega
        · rw [q] at z; simp at z
    · refine ⟨h1.n, h2, ns.take top, ?_, g2, ?_, fun z => ?_, by omega, by omega, k2, o2, fun c hc => Nat.le_trans (hb c (List.mem_of_mem_take hc)) (by omega)⟩
      · have t0 : truthD h2 (.box h1.n) = some true := by
          unfold truthD
          simp only [g2]
          cases hq : ns.take top with
          | nil => exact absurd hq q
          | cons a r => rfl
        simp only [mSet, mDo, mOrV, mOpA, mCons, mNil, mSl, mPart, mBind, mVar, okS_ok nl, okS, mCon, mPure, mLst, mDisp, List.getElem?_cons_zero, List.getElem?_cons_succ, lift, Nv.lift, d1, e1, d2, e2, t0, List.set_cons_zero, List.set_cons_succ]
      · cases hq : ns.take top with
        | nil => exact absurd hq q
        | cons a r => simp
      · rw [List.length_take]
        have : top < ns.length := by
          by_cases y : top < ns.length
          · exact y
          · exact absurd (List.drop_eq_nil_of_le (by omega)) z
        omega
  obtain ⟨b, h3, cs, f1, f2, f3, f4, f5, f6, f7, f8, f9⟩ := first
  -- script[top:63]
  obtain ⟨h4, e4⟩ := Hs.new_some h3 (.lst ((ns.drop top).map D.int)) (by omega)
  have g4 : h4.get h3.n = some (.lst ((ns.drop top).map D.int)) := by rw [Hs.new_get e4, if_pos rfl]
  have g4b : h4.get b = some (.lst (List.map D.int cs)) := by rw [Hs.new_get e4, if_neg (by omega)]; exact f2
  have d3 : dSl h3 sc (some (top : Int)) (some 63) = some (.n (.lst ((ns.drop top).map D.int))) := by
    rw [← ec2]; exact hsl h3 _ _ f8
  have it : itD h4 (.box h3.n) = some ((ns.drop top).map D.int, [h3.n]) := by
    unfold itD; simp only [g4]
  have loop : ∃ h5 x3 x4 x5 cs', loopF (tTup 2 (tsCons (tName 3) (tsCons (tName 4) tsNil))) mCellBody (enumD 0 ((ns.drop top).map .int)) [some sc, some (.int top), some (.box b), none, none, none] (relk ([h3.n] ++ h4.lk) h4) = some (.nx [some sc, some (.int top), some (.box b), x3, x4, x5] h5) ∧
      h5.get b = some (.lst (List.map D.int cs')) ∧ 1 ≤ cs'.length ∧ h5.n = h4.n ∧ ∀ c ∈ cs', Builtin.Int.intBits c ≤ 2000000 := by
    by_cases q : ns.drop top = []
    · rw [q]
      exact ⟨_, none, none, none, cs, rfl, g4b, f3, rfl, fun c hc => Nat.le_trans (f9 c hc) (by omega)⟩
    · obtain ⟨h5, x3, x4, x5, l1, cs', l2, l3, l4, l5, l6, l7⟩ := cell_loopB ht sc b (by omega) (ns.drop top) 0 cs (relk ([h3.n] ++ h4.lk) h4) none none none 1048586 f9 (Nat.le_refl _) (fun z hz => hb z (List.mem_of_mem_drop hz)) (by rw [List.length_drop]; omega) (f4 q) g4b
        (by show b ∉ [h3.n] ++ h4.lk; rw [Hs.new_lk e4, f7]; simp; omega)
      exact ⟨h5, x3, x4, x5, cs', l1, l3, by omega, l5, fun c hc => by have := l7 c hc; rw [List.length_drop] at this; omega⟩
  obtain ⟨h5, x3, x4, x5, cs', l1, l2, l3, l4, l5⟩ := loop
  refine ⟨b, relk h4.lk h5, cs', ?_, l2, l3, (Hs.new_lk e4).trans f7, by show h5.n < _; rw [l4, Hs.new_n e4]; omega, by show b < h5.n; rw [l4, Hs.new_n e4]; omega, l5⟩
  have henv : envOf 6 [sc, .int top] = [some sc, some (.int top), none, none, none, none] := rfl
  have en : (mEnum 0 (mSl (mVar 0) (mPart (mVar 1)) (mPart (mCon (.int 63))))) [some sc, some (.int top), some (.box b), none, none, none] h3 = some (.ok (enumD 0 ((ns.drop top).map .int), [h3.n]) h4) := by
    simp only [mEnum, mSl, mPart, mBind, mVar, okS_ok nl, okS, mCon, mPure, List.getElem?_cons_zero, List.getElem?_cons_succ, lift, Nv.lift, d3, e4, it]
  unfold runDef
  rw [henv]
  unfold mCells
  rw [show ∀ (a b : MS) ρ h, mSeq a b ρ h = (match a ρ h with | some (.nx ρ1 h1) => b ρ1 h1 | o => o) from fun _ _ _ _ => rfl, f1]
  dsimp only
  rw [show ∀ (a b : MS) ρ h, mSeq a b ρ h = (match a ρ h with | some (.nx ρ1 h1) => b ρ1 h1 | o => o) from fun _ _ _ _ => rfl]
  have ef : mFor (mEnum 0 (mSl (mVar 0) (mPart (mVar 1)) (mPart (mCon (.int 63))))) (tTup 2 (tsCons (tName 3) (tsCons (tName 4) tsNil))) mCellBody [some sc, some (.int top), some (.box b), none, none, none] h3 = some (.nx [some sc, some (.int top), some (.box b), x3, x4, x5] (relk h4.lk h5)) := by
    unfold mFor mDo
    rw [en]
    dsimp only
    rw [l1]
    rfl
  rw [ef]
  rfl
end Rh

set_option Elab.async false
set_option linter.all false
set_option maxRecDepth 100000
set_option maxHeartbeats 2000000
set_option autoImplicit false
/-! The end of a suite that no box reaches. -/
namespace Rh
open PySem PySem.Spec PyProof.Rows L2
variable [Tbs]
def flatO (o : Option D) : Option D := match o with
  | none => none
  | some .lm => none
  | some d => match flatD d with
    | true => some d
    | false => none
theorem flatO_some {o : Option D} {d : D} (h : flatO o = some d) : o = some d ∧ flatD d = true ∧ d ≠ .lm := by
  cases o with
  | none => cases h
  | some e =>
    cases e <;> first
      | (cases h; exact ⟨rfl, rfl, fun z => nomatch z⟩)
      | cases h
      | (rename_i ds
         unfold flatO at h
         dsimp only at h
         split at h
         · rename_i q; cases h; exact ⟨rfl, q, fun z => nomatch z⟩
         · cases h)
def clS (m : MS) : MS := fun ρ h => match m (ρ.map flatO) h0 with
  | some (.rt d _) => (match flatD d with
    | true => some (.rt d h)
    | false => none)
  | _ => none
theorem cls_imp (hz : Tbs.base = []) {X : Cx} {W : WX} {m : MS} {D : Ends} {σ : L2.St} {H : Hp} (q : rdS X W (clS m) D σ H) : rdS X W m D σ H := by
  obtain ⟨ρ, L, μ, h, rel, q⟩ := q
  have r0 : Rel (ctX X) [] (ρ.map flatO) σ [] H h0 := by
    refine ⟨by rw [List.length_map]; exact rel.len, fun i d e => ?_, hr0 hz rel.hr.tb⟩
    rw [List.getElem?_map] at e
    cases e1 : ρ[i]? with
    | none => rw [e1] at e; cases e
    | some o =>
      rw [e1] at e
      have e2 : flatO o = some d := Option.some.inj e
      obtain ⟨rfl, f, nl⟩ := flatO_some e2
      obtain ⟨v, a, b⟩ := rel.val i d e1
      exact ⟨v, a, (RepV.flat d v f (b.v nl)).s⟩
  refine ⟨_, _, _, _, r0, ?_⟩
  unfold clS at q
  cases e : m (ρ.map flatO) h0 with
  | none => rw [e] at q; exact SatS.none q
  | some r =>
    rw [e] at q
    cases r with
    | rt d h' =>
      dsimp only at q
      cases f : flatD d with
      | false => rw [f] at q; exact SatS.none q
      | true =>
        rw [f] at q
        intro μ' H' x g r' rx
        obtain ⟨g', r2⟩ := cl_back rel.hr g r'
        exact q μ H' x g' r2 (RepV.flat d x f rx)
    | nx _ _ => exact SatS.none q
    | bk _ _ => exact SatS.none q
    | ct _ _ => exact SatS.none q
    | ex _ _ _ _ => exact SatS.none q
theorem s_cl (hz : Tbs.base = []) {X : Cx} {W : WX} {ss : List Stmt} {m : MS} (p : PSs X ss (rdS X W m)) : PSs X ss (rdS X W (clS m)) := pss_imp p fun _ _ _ q => cls_imp hz q
def rtT : Option RS → Bool
  | some (.rt (.bl true) _) => true
  | _ => false
theorem cls_true {m : MS} {ρ : En} {h : Hs} (t : rtT (m (ρ.map flatO) h0) = true) : clS m ρ h = some (.rt (.bl true) h) := by
  unfold clS
  cases e : m (ρ.map flatO) h0 with
  | none => rw [e] at t; cases t
  | some r =>
    rw [e] at t
    cases r with
    | rt d _ =>
      cases d <;> first
        | cases t
        | (rename_i b; cases b <;> first | rfl | cases t)
    | _ => cases t
end Rh

set_option Elab.async false
set_option linter.all false
set_option maxRecDepth 100000
set_option maxHeartbeats 2000000
set_option autoImplicit false
/-! Set comprehensions of ints: the set is no box; it is told by its members in order. -/
namespace Rh
open PySem PySem.Spec PyProof.Rows L2 PpSet
variable [Tbs]
def loopU (t : TM) (conds : M Bool) (elt : M D) (ρ : En) : List D → List Int → Hs → Option (List Int × Hs)
  | [], ns, h => some (ns, h)
  | d :: ds, ns, h => match t d ρ h with
    | none => none
    | some (ρ1, h1) => match conds ρ1 h1 with
      | some (.ok false h2) => loopU t conds elt ρ ds ns h2
      | some (.ok true h2) => (match elt ρ1 h2 with
        | some (.ok (.int k) h3) => if ns.length + 1 < scanBound then loopU t conds elt ρ ds (insU k ns) h3 else none
        | _ => none)
      | _ => none
def mSc (mi : M (List D × List Nat)) (t : TM) (conds : M Bool) (elt : M D) (vs : List Nat) : M (List Int) := mBind mi fun p => fun ρ h => match loopU t conds elt (wipeE ρ vs) p.1 [] (relk (p.2 ++ h.lk) h) with
  | some (ns, h') => some (.ok ns (relk h.lk h'))
  | none => none
def rdU (X : Cx) (W : WX) (m : M (List Int)) : TE := fun σ H Q => rdG X W m σ H fun _ _ ns _ μ' H' => ∀ a, H' a = some (SIO X.w a ns) → a ∉ μ' → ns.Pairwise (· < ·) → Q (.ref a) H'
theorem sio_nt {w : World} {a : Addr} {ns : List Int} : ∀ ps, SIO w a ns ≠ .tbl ps := fun _ z => nomatch z
theorem hr_sio {C : Ct} {L : List Nat} {μ : Mu} {H : Hp} {h : Hs} {l : Addr} {w : World} {ns ns' : List Int} (r : HR C L μ H h) (nl : l ∉ μ) (e : H l = some (SIO w l ns)) : HR C L μ (L2.upd H l (SIO w l ns')) h := by
  have ne : ∀ b o, H b = some o → (o ≠ SIO w l ns) → L2.upd H l (SIO w l ns') b = some o := fun b o eb hne => by
    have : b ≠ l := fun z => by subst z; rw [e] at eb; exact hne (Option.some.inj eb).symm
    rw [upd_ne this]; exact eb
  have st : Stay μ H μ (L2.upd H l (SIO w l ns')) := ⟨fun _ _ q => q, fun a xs q => ne a _ q (fun z => nomatch z), fun a o u q => ne a _ q (fun z => nomatch z)⟩
  refine ⟨r.lk, r.len, r.nd, ⟨fun p hp => ?_, fun p hp => ?_⟩, fun i a ea => ?_⟩
  · obtain ⟨ps, h1, h2, h3⟩ := r.tb.1 p hp
    refine ⟨ps, ne _ _ h1 (fun z => nomatch z), h2, fun pos cv hc => ?_⟩
    obtain ⟨c, e1, e2⟩ := h3 pos cv hc
    refine ⟨c, e1, ?_⟩
    by_cases hcl : c = l
    · subst hcl; rw [e] at e2; exact (codeO_ne_sio (a := c) (Option.some.inj e2).symm).elim
    · rw [upd_ne hcl]; exact e2
  · by_cases hcl : p.1 = l
    · have e2 := r.tb.2 p hp
      rw [hcl, e] at e2; exact (codeO_ne_sio (a := l) (Option.some.inj e2).symm).elim
    · rw [upd_ne hcl]; exact r.tb.2 p hp
  · obtain ⟨o, e1, qo⟩ := r.ob i a ea
    have hal : a ≠ l := fun z => nl (z ▸ List.mem_of_getElem? ea)
    exact ⟨o, e1, qo.stay st (upd_ne hal)⟩
theorem go_sio {L : List Nat} {μ μ' : Mu} {H H' : Hp} {l : Addr} {o : HO} (g : Go L μ H μ' H') (hl : H l = none) (nl : l ∉ μ') : Go L μ H μ' (L2.upd H' l o) := by
  obtain ⟨r, rfl⟩ := g.ext
  refine ⟨fun i m a e => ?_, fun a u e nt n => ?_, fun a n => ?_, ⟨r, rfl⟩, g.new⟩
  · have : a ≠ l := fun z => nl (List.mem_append_left _ (z ▸ List.mem_of_getElem? e))
    rw [upd_ne this]; exact g.lk i m a e
  · have : a ≠ l := fun z => by subst z; rw [hl] at e; cases e
    rw [upd_ne this]; exact g.keep a u e nt n
  · by_cases z : a = l
    · subst z; exact .none hl
    · rw [upd_ne z] at n; exact g.dom a n
theorem go_nl {L : List Nat} {μ μ' : Mu} {H H' : Hp} {l : Addr} {w : World} {ns : List Int} (g : Go L μ H μ' H') (e : H l = some (SIO w l ns)) (nl : l ∉ μ) : l ∉ μ' ∧ H' l = some (SIO w l ns) :=
  ⟨fun m => (g.new l m).elim nl fun q => q.not e sio_nt, g.keep l _ e sio_nt nl⟩
section
variable {X : Cx} {W : WX} {σ : L2.St} {H : Hp} {Q : VK}
theorem rd_sc {mi : M (List D × List Nat)} {t : TM} {conds : M Bool} {elt : M D} {vs : List Nat} (q : rdU X W (mSc mi t conds elt vs) σ H Q) :
    tScG (fun D => SIO X.w D []) (stpI X.w) (rdI X W mi) (rdTg X t vs) (rdT X WF conds) (rd X WF elt) vs σ H Q := by
  refine rdG_imp (rdG_bind q) fun ρ L p h1 μ1 H1 ⟨rel1, q1⟩ J cov l hl => ?_
  obtain ⟨ds, lks⟩ := p
  dsimp only at q1 cov
  rw [rel1.hr.lk] at q1
  cases eL : loopU t conds elt (wipeE ρ vs) ds [] (relk (lks ++ L) h1) with
  | none => simp only [eL] at q1; exact q1.none
  | some r =>
    obtain ⟨nsf, hf⟩ := r
    simp only [eL] at q1
    obtain ⟨s1, d1⟩ := same_new (o := SIO X.w l []) hl
    have rel2 := rel1.relk (L' := lks ++ L)
    have r2 := rel2.hr.same s1
    have nl : l ∉ μ1 := fun m => by obtain ⟨u, e2, _⟩ := rel1.hr.mut m; rw [hl] at e2; cases e2
    have g2 : Go (lks ++ L) μ1 H1 μ1 (L2.upd H1 l (SIO X.w l [])) := .same rel2.hr s1 d1
    refine ⟨fun i m Hc => m = ds.length - i ∧ i ≤ ds.length ∧ ∃ μi hi ns, Go (lks ++ L) μ1 H1 μi Hc ∧ HR (ctX X) (lks ++ L) μi Hc hi ∧ l ∉ μi ∧ Hc l = some (SIO X.w l ns) ∧ ns.Pairwise (· < ·) ∧ loopU t conds elt (wipeE ρ vs) (ds.drop i) ns hi = some (nsf, hf),
      ⟨ds.length, by simp, Nat.zero_le _, μ1, _, [], g2, r2, nl, upd_same, .nil, eL⟩, ?_⟩
    rintro i m Hc ⟨rfl, hi, μi, hh, ns, gi, ri, nli, el0, asc, el⟩
    have st : Still lks μ1 H1 μi Hc := ⟨gi.stay rel2.hr, fun n m => gi.lk n (List.mem_append_left _ m)⟩
    by_cases hlt : i < ds.length
    · refine .inr ⟨cov.go i μi Hc st hlt, fun H' => i + 1 ≤ ds.length ∧ ∃ μi hi ns, Go (lks ++ L) μ1 H1 μi H' ∧ HR (ctX X) (lks ++ L) μi H' hi ∧ l ∉ μi ∧ H' l = some (SIO X.w l ns) ∧ ns.Pairwise (· < ·) ∧ loopU t conds elt (wipeE ρ vs) (ds.drop (i + 1)) ns hi = some (nsf, hf),
        fun H' ⟨q1, q2⟩ => ⟨ds.length - (i + 1), by omega, rfl, q1, q2⟩, fun x H' y => ?_⟩
      have hd : ds[i]? = some ds[i] := List.getElem?_eq_getElem hlt
      obtain ⟨sm, dm, rv⟩ := cov.yld i μi Hc x H' _ st y hd
      have g3 : Go (lks ++ L) μi Hc μi H' := .same ri sm dm
      have r3 := ri.same sm
      rw [List.drop_eq_getElem_cons hlt] at el
      unfold loopU at el
      cases e1 : t ds[i] (wipeE ρ vs) hh with
      | none => rw [e1] at el; cases el
      | some p =>
        obtain ⟨ρ2, h3⟩ := p
        simp only [e1] at el
        have relw : Rel (ctX X) (lks ++ L) (wipeE ρ vs) (wipe σ vs) μi H' hh := (rel2.wipe (vs := vs)).go (gi.trans g3) r3
        refine ⟨ds[i], wipeE ρ vs, lks ++ L, μi, hh, ρ2, h3, relw, rv, e1, fun σ2 μ3 H3 g4 rel3 b3 => ⟨b3.wipe, ρ2, lks ++ L, μ3, h3, rel3, ?_⟩⟩
        have ga : Go (lks ++ L) μ1 H1 μ3 H3 := gi.trans (g3.trans g4)
        obtain ⟨nl3, el3⟩ := go_nl (g3.trans g4) el0 nli
        cases e2 : conds ρ2 h3 with
        | none => simp only [e2] at el; cases el
        | some p =>
          cases p with
          | ex c fs ρ3 => simp only [e2] at el; cases el
          | ok c h4 =>
            intro μ4 H4 g5 r5
            obtain ⟨nl4, el4⟩ := go_nl g5 el3 nl3
            cases c with
            | false =>
              simp only [e2] at el
              refine iteF ?_
              exact ⟨hlt, μ4, _, ns, ga.trans g5, r5, nl4, el4, asc, el⟩
            | true =>
              refine iteT ?_
              simp only [e2] at el
              refine ⟨ρ2, lks ++ L, μ4, h4, rel3.go g5 r5, ?_⟩
              cases e3 : elt ρ2 h4 with
              | none => simp only [e3] at el; cases el
              | some p =>
                cases p with
                | ex c fs ρ4 => simp only [e3] at el; cases el
                | ok kd h5 =>
                  cases kd <;> simp only [e3] at el <;> first | (cases el; done) | skip
                  rename_i k
                  split at el
                  · rename_i room
                    intro μ5 H5 g6 r6 yk ryk
                    obtain ⟨nl5, el5⟩ := go_nl g6 el4 nl4
                    exact ⟨k, ns, ryk, el5, asc, room, hlt, μ5, h5, insU k ns, go_sio ((ga.trans g5).trans g6) hl nl5, hr_sio r6 nl5 el5, nl5, upd_same, asc_insU asc, el⟩
                  · cases el
    · have e : i = ds.length := by omega
      subst e
      rw [List.drop_length] at el
      unfold loopU at el
      cases el
      exact .inl ⟨cov.stop _ μi Hc st rfl, q1 μi Hc gi.less (ri.relk (L' := L)) l el0 nli asc⟩
end
end Rh

set_option Elab.async false
set_option linter.all false
set_option maxRecDepth 100000
set_option maxHeartbeats 2000000
set_option autoImplicit false
namespace Rh
open PySem PySem.Spec PyProof.Rows L2 PpSet
variable [Tbs]
section
variable {X : Cx} {W : WX}
theorem e_scU {elt tg iter : Expr} {ifs : List Expr} {scope : Scope} {own : List (Str × Nat)} {pos : Pos} {mi : M (List D × List Nat)} {t : TM} {mc : M Bool} {me : M D} {vs : List Nat} (hc : X.calm = true) (hN : X.N.Nodup) (ok : BlkOk X.N X.env.scope scope own) (hvs : own.map (fun x : Str × Nat => x.2) = vs)
    (hi : PI X tg iter (rdI X W mi))
    (hg : ∀ (s : Shared) (H : Hp) (C : Addr) (cl : List (Str × Addr)) (fp : List Addr), PG (X.blk s H scope (compEnvC scope cl C X.env) fp) tg (rdTg (X.blk s H scope (compEnvC scope cl C X.env) fp) t vs))
    (ht : ∀ (s : Shared) (H : Hp) (C : Addr) (cl : List (Str × Addr)) (fp : List Addr), PTs (X.blk s H scope (compEnvC scope cl C X.env) fp) ifs (rdT (X.blk s H scope (compEnvC scope cl C X.env) fp) WF mc))
    (he : ∀ (s : Shared) (H : Hp) (C : Addr) (cl : List (Str × Addr)) (fp : List Addr), PE (X.blk s H scope (compEnvC scope cl C X.env) fp) elt (rd (X.blk s H scope (compEnvC scope cl C X.env) fp) WF me))
    (hs : ∀ x, foldedSetIterable iter X.env x = pure x := by intro _; rfl) :
    PE X (.SetComp elt [⟨tg, iter, ifs, 0⟩] scope pos) (rdU X W (mSc mi t mc me vs)) := by
  subst hvs
  exact pe_imp (pe_scG (ini := fun D => SIO X.w D []) (stp := stpI X.w) (g := rdTg X t (own.map (fun x : Str × Nat => x.2))) (tt := rdT X WF mc) (te := rd X WF me) (fun H h => sio_ini X.prog X.w H h) (fun s0 H0 sc env fp pins σ H s D y u Nx Q E I h r k => stpI_ok (Y := X.blk s0 H0 sc env fp) I h r k) hc hN hi ok hg ht he hs) fun σ H Q h => rd_sc h
theorem cr_lenSet {X : Cx} : CallR X (.builtin "len") (fun vs H Q => ∃ (a : Addr) (S : Int → Bool) (n : Nat), vs = [V.ref a] ∧ H a = some (SetO X.w a S n) ∧ n < 64 ∧ Q (.int (n : Nat)) H) := by
  intro pins s σ H vs us Q I r h
  obtain ⟨a, S, n, rfl, ha, h64, q⟩ := h
  have R := setO_get I ha
  rw [Vals.ref1 r]
  obtain ⟨o, es, ep, t, ho, hex, hd, g, nd, hm, hb, hf, hn, hr, hl⟩ := R
  refine call_len_set ho hex hd hf (by rw [hn] <;> omega) ⟨.int (n : Nat), H, I.tok _, ⟨_, by rw [hn]⟩, q⟩
def mLenSc (m : M (List Int)) : M D := mBind m fun ns => fun _ h => lift h (if ns.length < 64 then some (.v (.int (ns.length : Nat))) else none)
theorem f_lenSc {e : Expr} {m : M (List Int)} {p pos : Pos} (hv : bootBuiltins "len" = some (.builtin "len")) (hg : Gl X "len") (hm : X.mg "len" = none) (ha : PE X e (rdU X W m)) (he : starEach [e] X.env = (false, eval e X.env) :: starEach [] X.env := by rfl) (hpl : (backTo pos (starEach ([] : List Expr) X.env)).any (·.1) = false := by rfl) :
    PE X (.Call (.Name "len" p) [e] [] pos) (rd X W (mLenSc m)) := by
  refine pe_imp (pe_callB cr_lenSet hg hm hv (pa_cons ha pa_nil he) (by decide) (by decide) he hpl) fun σ H Q q => ?_
  refine rdG_imp (rdG_bind q) fun ρ L ns h1 μ1 H1 ⟨rel1, q1⟩ a ea na asc => ?_
  obtain ⟨n, en, want⟩ := Sat.lift rel1.hr q1
  split at en
  · rename_i h64
    cases en
    exact ⟨a, fun k => decide (k ∈ ns), ns.length, rfl, ea, h64, want.old (d := .int (ns.length : Nat)) rfl⟩
  · cases en
end
end Rh

set_option Elab.async false
set_option linter.all false
set_option maxRecDepth 100000
set_option autoImplicit false
/-! set(xs) of a list of ints -/
namespace Rh
open PySem PySem.Spec PyProof.Rows L2 PpSet
section
variable {P : Program} {w : World} {A : Around} {E : Value → Shared → Prop} {s : Shared}
end
end Rh

set_option Elab.async false
set_option linter.all false
set_option maxRecDepth 100000
set_option maxHeartbeats 2000000
set_option autoImplicit false
/-! sorted(set(xs)) of ints -/
namespace Rh
open PySem PySem.Spec PyProof.Rows L2 PpSet
section
variable [Tbs]
end
section
variable [Tbs] {X : Cx} {W : WX}
end
end Rh

set_option Elab.async false
set_option linter.all false
set_option maxRecDepth 100000
set_option maxHeartbeats 2000000
set_option autoImplicit false
namespace Rh
open PySem PySem.Spec PyProof.Rows L2 PpSet
variable {prog : Program} {w : World} {A : Around} {E : Value → Shared → Prop} {s : Shared}
end Rh

set_option Elab.async false
set_option linter.all false
set_option maxRecDepth 100000
set_option maxHeartbeats 2000000
set_option autoImplicit false
/-! Set comprehensions of bools. -/
namespace Rh
open PySem PySem.Spec PyProof.Rows L2 PpSet
variable [Tbs]
section
variable {X : Cx} {W : WX} {σ : L2.St} {H : Hp} {Q : VK}
end
end Rh

set_option Elab.async false
set_option linter.all false
set_option maxRecDepth 100000
set_option maxHeartbeats 2000000
set_option autoImplicit false
namespace Rh
open PySem PySem.Spec PyProof.Rows L2 PpSet
section
variable [Tbs] {X : Cx} {W : WX}
end
end Rh

set_option Elab.async false
set_option linter.all false
set_option maxRecDepth 100000
set_option maxHeartbeats 2000000
set_option autoImplicit false
/-! sorted(xs) of data of any depth -/
namespace Rh
open PySem PySem.Spec PyProof.Rows L2
section
variable {α : Type} {le : α → α → Bool}
end
variable [Tbs]
section
variable {C : Ct} {μ : Mu} {H : Hp}
end
section
variable {X : Cx} {W : WX} {e : Expr} {es : List Expr} {ms : M (List D)} {pos p : Pos}
end
end Rh

set_option Elab.async false
set_option linter.all false
set_option maxRecDepth 100000
set_option maxHeartbeats 4000000
set_option autoImplicit false
/-! One run at most: what holds of a call for each of many readings holds for all of them at once. -/
namespace PySem
end PySem

set_option Elab.async false
set_option linter.all false
set_option maxRecDepth 100000
set_option maxHeartbeats 2000000
set_option autoImplicit false
/-! Words for a law's last steps, more of them. -/
namespace Rh
open PySem PySem.Spec PyProof.Rows L2
variable [Tbs]
section
variable {ρ : En} {h h1 : Hs}
end
end Rh

set_option Elab.async false
set_option linter.all false
set_option maxRecDepth 100000
set_option maxHeartbeats 2000000
set_option autoImplicit false
/-! min(xs), data of any depth: the first of the least -/
namespace Rh
open PySem PySem.Spec PyProof.Rows L2
variable [Tbs]
section
variable {X : Cx} {W : WX} {e : Expr} {es : List Expr} {ms : M (List D)} {pos p : Pos}
end
end Rh

set_option Elab.async false
set_option linter.all false
set_option maxRecDepth 100000
set_option maxHeartbeats 4000000
set_option autoImplicit false
/-! min(xs, key = f), f a def of the text that needs no box -/
namespace Rh
open PySem PySem.Spec PyProof.Rows L2
/-- what is tracked stays, tables aside -/
def KeepH (H H' : Hp) : Prop := ∀ b o, H b = some o → (∀ ps, o ≠ .tbl ps) → H' b = some o
theorem KeepH.refl {H : Hp} : KeepH H H := fun _ _ e _ => e
theorem KeepH.trans {H H1 H2 : Hp} (a : KeepH H H1) (b : KeepH H1 H2) : KeepH H H2 := fun c o e nt => b c o (a c o e nt) nt
theorem KeepH.sqL {K : PySem.W.Frag} {H H' : Hp} (k : KeepH H H') {a : Addr} {xs : List V} (h : SqL K H a xs) : SqL K H' a xs := by
  rcases h with (h | ⟨o, h⟩) | h
  · exact .inl (.inl (k _ _ h fun _ z => nomatch z))
  · exact .inl (.inr ⟨o, k _ _ h fun _ z => nomatch z⟩)
  · exact .inr h
variable [Tbs]
/-- how far the walk is: H1 the heap as it is now -/
structure GoodM (X : Cx) (pins : List (Addr × Obj)) (σ : L2.St) (H : Hp) (ch : List Addr) (H1 : Hp) (s1 : Shared) : Prop where
  inv : L2.Inv X pins σ H1 s1
  go : Go [] [] H [] H1
  tb : TbA H1
  fp : ∀ b ∈ ch, FpOk X pins H1 b
section
variable {X : Cx} {k : Nat} {f : Addr} {fd : FuncData} {pn : List Str} {fm : FM}
end
section
variable {X : Cx} {W : WX} {k : Nat} {f : Addr} {fd : FuncData} {pn : List Str} {fm : FM}
end
end Rh

set_option Elab.async false
set_option linter.all false
set_option maxRecDepth 100000
set_option maxHeartbeats 2000000
set_option autoImplicit false
/-! sorted(a dict), keys of any depth -/
namespace Rh
open PySem PySem.Spec PyProof.Rows L2
variable [Tbs]
section
variable {X : Cx}
end
section
variable {X : Cx} {W : WX} {e : Expr} {es : List Expr} {ms : M (List D)} {pos p : Pos}
end
end Rh

set_option Elab.async false
set_option linter.all false
set_option maxRecDepth 100000
set_option maxHeartbeats 4000000
set_option autoImplicit false
/-! Set comprehensions with two fors, whatever the members. -/
namespace Rh
open PySem PySem.Spec PyProof.Rows L2 PpSet
section
variable {P : Program} {w : World} {A : Around} {R : Result → Shared → Prop} {s : Shared} {el tA iA tB iB : Expr} {fA fB : List Expr} {sc : Scope} {ps : Pos} {itv D : Value} {en : Env}
end
end Rh

set_option Elab.async false
set_option linter.all false
set_option maxRecDepth 100000
set_option maxHeartbeats 4000000
set_option autoImplicit false
/-! The core of set comprehensions with two fors. -/
namespace Rh
open PySem PySem.Spec PyProof.Rows L2 PpSet
section
variable {X : Cx}
end
end Rh

set_option Elab.async false
set_option linter.all false
set_option maxRecDepth 100000
set_option maxHeartbeats 4000000
set_option autoImplicit false
/-! Sets of tuples of ints: the set is no box; it is told by its members, in any order. -/
namespace Rh
open PySem PySem.Spec PyProof.Rows L2 PpSet
variable [Tbs]
/-- what adding asks -/
def stpT (P : Program) (w : World) (K : PySem.W.Frag) (D : Addr) (y : V) (H : Hp) (Nx : Hp → Prop) : Prop := ∃ (b : Addr) (k : List Int) (L : List (Addr × List Int)), y = .ref b ∧ SqT K H b (k.map V.int) ∧ H D = some (SetTO P w D L) ∧ (∀ p ∈ L, SqT K H p.1 (p.2.map V.int)) ∧ L.length + 1 < 64 ∧
  ∀ L' : List (Addr × List Int), (k ∈ L.map (·.2) → L' = L) → (k ∉ L.map (·.2) → L'.Perm ((b, k) :: L)) → Nx (upd H D (SetTO P w D L'))
theorem sto_nt {P : Program} {w : World} {a : Addr} {L : List (Addr × List Int)} : ∀ ps, SetTO P w a L ≠ .tbl ps := fun _ z => nomatch z
theorem stay_sto {μ : Mu} {H : Hp} {l : Addr} {P : Program} {w : World} {L L' : List (Addr × List Int)} (e : H l = some (SetTO P w l L)) : Stay μ H μ (L2.upd H l (SetTO P w l L')) := by
  have ne : ∀ b o, H b = some o → (o ≠ SetTO P w l L) → L2.upd H l (SetTO P w l L') b = some o := fun b o eb hne => by
    have : b ≠ l := fun z => by subst z; rw [e] at eb; exact hne (Option.some.inj eb).symm
    rw [upd_ne this]; exact eb
  exact ⟨fun _ _ q => q, fun a xs q => ne a _ q (fun z => nomatch z), fun a o u q => ne a _ q (fun z => nomatch z)⟩
/-! the set as it is known -/
def InT (X : Cx) (l : Addr) (μ : Mu) (H : Hp) (ks : List (List Int)) : Prop := ∃ L : List (Addr × List Int), H l = some (SetTO X.prog X.w l L) ∧ (L.map (·.2)).Perm ks ∧ ∀ p ∈ L, RepV (ctX X) μ H (tupOf p.2) (.ref p.1)
theorem InT.go {X : Cx} {l : Addr} {μ μ' : Mu} {H H' : Hp} {ks : List (List Int)} {L0 : List Nat} {h : Hs} (q : InT X l μ H ks) (r : HR (ctX X) L0 μ H h) (nl : l ∉ μ) (g : Go L0 μ H μ' H') : InT X l μ' H' ks ∧ l ∉ μ' := by
  obtain ⟨L, e, p, rp⟩ := q
  exact ⟨⟨L, g.keep l _ e sto_nt nl, p, fun x hx => (rp x hx).go r g⟩, fun m => (g.new l m).elim nl fun z => z.not e sto_nt⟩
def insT (k : List Int) (ks : List (List Int)) : List (List Int) := if k ∈ ks then ks else k :: ks
theorem repT_sq {C : Ct} {μ : Mu} {H : Hp} {k : List Int} {b : Addr} (h : RepV C μ H (tupOf k) (.ref b)) : SqT C.K H b (k.map V.int) := by
  obtain ⟨a, e, q⟩ := repT h
  cases e; exact q
/-- one more -/
theorem InT.add {X : Cx} {l : Addr} {μ : Mu} {H : Hp} {ks : List (List Int)} {k : List Int} {y : V} {Nx : Hp → Prop} (q : InT X l μ H ks) (ry : RepV (ctX X) μ H (tupOf k) y) (room : ks.length + 1 < 64) (n : ∀ L L', H l = some (SetTO X.prog X.w l L) → InT X l μ (L2.upd H l (SetTO X.prog X.w l L')) (insT k ks) → Nx (L2.upd H l (SetTO X.prog X.w l L'))) :
    stpT X.prog X.w X.K l y H Nx := by
  obtain ⟨L, e, p, rp⟩ := q
  obtain ⟨b, vs, rfl, t, rl⟩ := id ry
  refine ⟨b, k, L, rfl, repT_sq ry, e, fun x hx => repT_sq (rp x hx), by have := p.length_eq; rw [List.length_map] at this; omega, fun L' c1 c2 => n L L' e ?_⟩
  have st : Stay μ H μ (L2.upd H l (SetTO X.prog X.w l L')) := stay_sto e
  unfold insT
  by_cases m : k ∈ L.map (·.2)
  · rw [if_pos (p.mem_iff.mp m)]
    have := c1 m
    subst this
    exact ⟨L', upd_same, p, fun x hx => (rp x hx).stay st⟩
  · rw [if_neg fun z => m (p.mem_iff.mpr z)]
    have c := c2 m
    refine ⟨L', upd_same, (show (L'.map (·.2)).Perm (k :: L.map (·.2)) from c.map (·.2)).trans (p.cons k), fun x hx => ?_⟩
    rcases List.mem_cons.mp (c.mem_iff.mp hx) with rfl | hx
    · exact RepV.stay st _ _ ry
    · exact (rp x hx).stay st
section
variable {X : Cx} {W : WX} {L0 lks1 : List Nat} {μ1 μ4 : Mu} {H1 H4 : Hp} {h1 h3 hf : Hs} {ρ1 : En} {σ2 : L2.St} {l : Addr} {ks0 ksf : List (List Int)} {ds1 : List D} {t1 : TM} {conds1 : M Bool} {elt : M D} {vs1 : List Nat} {J1 : It} {Nx : Hp → Prop}
end
end Rh

set_option Elab.async false
set_option linter.all false
set_option maxRecDepth 100000
set_option maxHeartbeats 4000000
set_option autoImplicit false
/-! Set comprehensions of tuples of ints, with one for and with two; sorted, len of them. -/
namespace Rh
open PySem PySem.Spec PyProof.Rows L2 PpSet
variable [Tbs]
section
variable {X : Cx} {W : WX} {σ : L2.St} {H : Hp} {Q : VK}
end
section
variable {X : Cx} {W : WX}
end
end Rh

set_option Elab.async false
set_option linter.all false
set_option maxRecDepth 100000
set_option maxHeartbeats 2000000
set_option autoImplicit false
/-! What a law draws from: cells, and the urn made of them. -/
namespace Rh
open PySem PySem.Spec PyProof.Rows L2
variable [Tbs]
theorem urn_at {c0 : Int} (q0 : 0 ≤ c0) (q1 : c0 < 1000000000) (ns : List Int) (hl : ns.length ≤ 63) (hb : ∀ z ∈ ns, Builtin.Int.intBits z ≤ 1048576) (h : Hs) (hh : h.n < 900000) (hk : h.lk = []) (sc : D) (hs : sc = .scr (ns.map .int) ∨ ∃ b0, sc = .box b0 ∧ b0 < h.n ∧ h.get b0 = some (.lst (ns.map .int))) :
    ∃ (b : Nat) (h1 h2 : Hs) (x y : Int), runDef 6 mCells [sc, .int 1] h = some (.rt (.box b) h1) ∧ runDef 3 (mBox c0) [.box b, .int 0] h1 = some (.rt (.box h1.n) h2) ∧ h2.get h1.n = some (.lst [.int x, .int y, .int 0]) ∧ 0 ≤ x ∧ 0 ≤ y ∧ y < 4611686018427387904 ∧ h2.lk = [] ∧ h2.n < 900100 ∧ h1.n < h2.n := by
  obtain ⟨b, h1, cs, e, g, l1, k1, n1, bn, bb⟩ := cells_okB (top := 1) (by decide) (by decide) ns hl hb h hh hk sc hs
  obtain ⟨c, r, rfl⟩ : ∃ c r, cs = c :: r := by
    cases cs with
    | nil => simp at l1
    | cons c r => exact ⟨c, r, rfl⟩
  obtain ⟨h2, x, e2, q2, hx⟩ := box_ok (c0 := c0) g (Nat.le_trans (bb c List.mem_cons_self) (by decide)) (by omega)
  have n2 := Hs.new_n q2
  have m0 : 0 ≤ c % 2305843009213693951 := Int.emod_nonneg _ (by decide)
  have m1 : c % 2305843009213693951 < 2305843009213693951 := Int.emod_lt_of_pos _ (by decide)
  exact ⟨b, h1, h2, x, _, e, e2, by rw [Hs.new_get q2, if_pos rfl], hx, by omega, by omega, (Hs.new_lk q2).trans k1, by omega, by omega⟩
theorem scr_nlm {sc : D} {ns : List Int} {h : Hs} (hs : sc = .scr (ns.map .int) ∨ ∃ b0, sc = .box b0 ∧ b0 < h.n ∧ h.get b0 = some (.lst (ns.map .int))) : sc ≠ .lm := by
  rcases hs with rfl | ⟨_, rfl, _⟩ <;> exact fun z => nomatch z
/-- from every script to the law's two forms of it -/
theorem law_both {f : FM} (k : ∀ (ns : List Int) (_ : ns.length ≤ 63) (_ : ∀ z ∈ ns, Builtin.Int.intBits z ≤ 1048576) (h : Hs) (_ : h.n < 900000) (_ : h.lk = []) (sc : D) (_ : sc = .scr (ns.map .int) ∨ ∃ b0, sc = .box b0 ∧ b0 < h.n ∧ h.get b0 = some (.lst (ns.map .int))), ∃ k, f [sc] h = some (.rt (.bl true) k))
    (ns : List Int) (hl : ns.length ≤ 63) (hb : ∀ z ∈ ns, Builtin.Int.intBits z ≤ 1048576) : (∃ h, f [.scr (ns.map D.int)] h0 = some (.rt (.bl true) h)) ∧ ∃ h, f [.box 0] (hL ns) = some (.rt (.bl true) h) :=
  ⟨k ns hl hb h0 (by decide) rfl _ (.inl rfl), k ns hl hb (hL ns) (by show 1 < 900000; decide) rfl _ (.inr ⟨0, rfl, Nat.zero_lt_one, rfl⟩)⟩
end Rh

set_option Elab.async false
set_option linter.all false
set_option maxRecDepth 100000
set_option maxHeartbeats 2000000
set_option autoImplicit false
/-! sorted(set(t)), t a tuple of ints -/
namespace Rh
open PySem PySem.Spec PyProof.Rows L2 PpSet
variable [Tbs] {X : Cx} {W : WX}
end Rh

set_option Elab.async false
set_option linter.all false
set_option maxRecDepth 100000
set_option maxHeartbeats 2000000
set_option autoImplicit false
/-! list(d.values()) -/
namespace Rh
open PySem PySem.Spec PyProof.Rows L2
variable [Tbs]
section
variable {X : Cx} {W : WX}
end
end Rh

set_option Elab.async false
set_option linter.all false
set_option maxRecDepth 100000
set_option maxHeartbeats 2000000
set_option autoImplicit false
/-! sorted(set(xs)), xs a list of tuples of ints -/
namespace Rh
open PySem PySem.Spec PyProof.Rows L2
variable [Tbs]
section
variable {X : Cx} {W : WX}
end
end Rh

set_option Elab.async false
set_option linter.all false
set_option maxRecDepth 100000
set_option maxHeartbeats 2000000
set_option autoImplicit false
/-! d.setdefault(k, v), keys of any kind; for x in d.values() -/
namespace Rh
open PySem PySem.Spec PyProof.Rows L2
variable [Tbs]
section
variable {X : Cx}
end
section
variable {X : Cx} {W : WX} {o e f : Expr} {es : List Expr} {m : M D} {ms : M (List D)} {apos cpos : Pos}
end
end Rh

set_option Elab.async false
set_option linter.all false
set_option maxRecDepth 100000
set_option maxHeartbeats 2000000
set_option autoImplicit false
/-! for x in d.values() -/
namespace Rh
open PySem PySem.Spec PyProof.Rows L2
variable [Tbs]
section
variable {X : Cx} {W : WX} {tg : Expr}
end
end Rh

set_option Elab.async false
set_option linter.all false
set_option maxRecDepth 100000
set_option maxHeartbeats 2000000
set_option autoImplicit false
namespace Rh
open PySem PySem.Spec PyProof.Rows L2
variable [Tbs]
section
variable {X : Cx} {W : WX} {o e : Expr} {es : List Expr} {m : M D} {ms : M (List D)} {apos cpos : Pos}
end
end Rh

set_option Elab.async false
set_option linter.all false
set_option maxRecDepth 100000
set_option maxHeartbeats 2000000
set_option autoImplicit false
namespace Rh
open PySem PySem.Spec PyProof.Rows L2
variable [Tbs]
/-! ### shorter words -/
theorem ev {X : Cx} {W : WX} {x : Str} {pos : Pos} (i : Nat) (hN : X.N[i]? = some x := by rfl) (hv : Vis X.env.scope x := by first | exact .inl rfl | exact .inr (.inl rfl) | exact .inr (.inr rfl)) (hd : (x == ("__debug__" : Str)) = false := by decide) (hcd : (x == ("__classdict__" : Str)) = false := by decide) : PE X (.Name x pos) (rd X W (mVar i)) := e_var (i := i) hN hv hd hcd
end Rh

set_option Elab.async false
set_option linter.all false
set_option maxRecDepth 100000
set_option maxHeartbeats 2000000
set_option autoImplicit false
namespace Rh
open PySem PySem.Spec PyProof.Rows L2
variable [Tbs]
/-! ### dicts of the module's top: texts to ints -/
structure DctK (K : PySem.W.Frag) (w : World) (mg : Str → Option Value) (x : Str) (kvs : List (Str × Int)) : Prop where
  ex : ∃ a es n, mg x = some (.ref a) ∧ L2.KDict K w a es n ∧ Paired (fun (p : Str × Int) (e : DictEntry) => (∃ t, e.key = .str p.1 t) ∧ ∃ t, e.val = .int p.2 t) kvs es.toList
section
variable {X : Cx} {x : Str} {kvs : List (Str × Int)}
end
end Rh

set_option Elab.async false
set_option linter.all false
set_option maxRecDepth 100000
set_option maxHeartbeats 2000000
set_option autoImplicit false
namespace Rh
open PySem PySem.Spec PyProof.Rows L2
variable [Tbs]
/-! ### [f, g, h][i]() -/
section
variable {X : Cx} {W : WX} {k : Nat}
theorem e_callV0 {tb : List (Str × FM)} {o i : Expr} {p1 pos : Pos} {mf : M D} (hr : Room k X.A) (tk : Takes X W) (ht : TbOk X k 0 tb) (hf : PE X (.Subscript o i p1) (rd X W mf)) :
    PE X (.Call (.Subscript o i p1) [] [] pos) (rd X W (mCallV 0 tb mf mNil)) := by
  refine ⟨fun pins s σ H Q I q => ?_⟩
  have q2 : rd X W mf σ H fun x H1 => ∃ (k' : Nat) (f : FM) (fa : Addr) (fd : FuncData) (ps : List Str), k' ≤ k ∧ x = .ref fa ∧ PySem.W.keepIn X.K (.ref fa) = true ∧ FnOk X.prog X.w X.K X.mg X.base (L2.CX X.prog X.w) k' fa fd ps (spF (ctX X) 0 f) ∧ L2.Binds X.K fd ps [] ∧
      spF (ctX X) 0 f [] H1 Q (fun cls d H' => W cls d σ H') := by
    obtain ⟨ρ, L, μ, h, rel, q⟩ := q
    refine ⟨ρ, L, μ, h, rel, (q.bind rel).imp fun d h1 μ1 H1 g1 _ ⟨_, rel1, q1⟩ x rx => ?_⟩
    cases d with
    | gl y =>
      dsimp only at q1
      cases el : tb.lookup y with
      | none => rw [el] at q1; exact q1.none
      | some f =>
        rw [el] at q1
        obtain ⟨k', fa, fd, ps, hkl, hm, hk, F, hb⟩ := ht y f el
        obtain ⟨a, rfl, hma⟩ := rx
        have hma : X.mg y = some (.ref a) := hma
        rw [hm] at hma
        cases hma
        obtain ⟨_, rel2, q2⟩ := (q1.bind rel1) μ1 H1 .refl rel1.hr
        refine ⟨k', f, fa, fd, ps, hkl, rfl, hk, F, hb, ?_⟩
        split at q2
        · rename_i hl
          exact sp_of (as := []) hl rel2.hr rfl q2
        · exact q2.none
    | _ => exact q1.none
  rw [show eval (.Call (.Subscript o i p1) [] [] pos) X.env = (do
    callWith pos (← eval (.Subscript o i p1) X.env) [] (backTo pos (starEach [] X.env)) (backToKw pos (keywordEach [] X.env))) from rfl]
  refine wpAny_bind (thn (hf.run pins s σ H _ I q2) fun fv s1 ⟨x, H1, I1, r1, k', f, fa, fd, ps, hkl, ex, hk, F, hb, q3⟩ => ?_)
  subst ex
  cases r1
  exact PySem.W.callWith_K0 I1.kIn hk (run_fnSD (us := []) (E := fun σ cls d H' => W cls d σ H') F (hr.mono hkl) hb .nil (passes_at tk σ) I1 .nil q3)
end
end Rh

set_option Elab.async false
set_option linter.all false
set_option maxRecDepth 100000
set_option maxHeartbeats 2000000
set_option autoImplicit false
namespace Rh
open PySem PySem.Spec PyProof.Rows L2
variable [Tbs]
/-! ### x is None, x is True -/
def dIsB (neg : Bool) (h : Hs) (d e : D) : Option Nv := match d, e with
  | .bl a, .bl b => some (.v (.bl (match neg with | true => !decide (a = b) | false => decide (a = b))))
  | d, e => dIs neg h d e
section
variable {X : Cx}
theorem w_isB : CmpW X .Is (dIsB false) := by
  refine ⟨_, OpR.or' op_is_bl op_isN, fun H L μ h x y d e n Q hr r1 r2 hf want => ?_⟩
  unfold dIsB at hf
  split at hf
  · rename_i a b
    cases hf
    exact .inl ⟨a, b, r1, r2, want.old rfl⟩
  · exact .inr (cov_is H L μ h x y d e n Q hr r1 r2 hf want)
end
end Rh

set_option Elab.async false
set_option linter.all false
set_option maxRecDepth 100000
set_option maxHeartbeats 2000000
set_option autoImplicit false
namespace Rh
open PySem PySem.Spec PyProof.Rows L2
variable [Tbs]
open PySem.W PySem.Calls PySem.HandSPX
section
variable {X : Cx} {W : WX} {C : Addr} {fld : Str}
end
end Rh

set_option Elab.async false
set_option linter.all false
set_option maxRecDepth 100000
set_option maxHeartbeats 2000000
set_option autoImplicit false
namespace Rh
open PySem PySem.Spec PyProof.Rows L2
variable [Tbs]
open PySem.W PySem.Calls PySem.HandSPX
/-! ### X(field=v) -/
structure MkrK (P : Program) (w : World) (K : Frag) (C : Addr) (fld : Str) : Prop where
  made : ∀ (A : Around) (R : Result → Shared → Prop) (s : Shared) (v : Value), K.In s.heap → s.heap.NoLimit → A.depth + 1 < recursionLimit →
    (∀ h' tk e d, MadeX fld s.heap h' e C d v → R (.ok (.ret (.ref e))) { s with heap := h', toks := tk }) → codeAny (model P w) A (.call (.ref C) ⟨[], [(fld, v)]⟩) R s
namespace ExPlace
section
variable {prog : Program} {w : World} {A : Around} {R : Result → Shared → Prop} {s : Shared} {K : Frag} {C fI : Addr} {qn : Str}
end
end ExPlace
namespace ExLine
section
variable {prog : Program} {w : World} {A : Around} {R : Result → Shared → Prop} {s : Shared} {K : Frag} {C fI : Addr} {qn : Str}
end
end ExLine
end Rh

set_option Elab.async false
set_option linter.all false
set_option maxRecDepth 100000
set_option maxHeartbeats 2000000
set_option autoImplicit false
namespace Rh
open PySem PySem.Spec PyProof.Rows L2
variable [Tbs]
open PySem.W PySem.Calls PySem.HandSPX
/-! ### raise X(field=e) -/
section
variable {X : Cx} {W : WX} {C : Addr} {fld : Str}
end
end Rh
namespace Rh
open PySem PySem.Spec PyProof.Rows L2
variable [Tbs]
open PySem.W PySem.Calls PySem.HandSPX
section
variable {X : Cx} {W : WX} {C : Addr} {fld : Str}
end
end Rh

set_option Elab.async false
set_option linter.all false
set_option maxRecDepth 100000
set_option maxHeartbeats 2000000
set_option autoImplicit false
namespace Rh
open PySem PySem.Spec PyProof.Rows L2
variable [Tbs]
end Rh

set_option Elab.async false
set_option linter.all false
set_option maxRecDepth 100000
set_option maxHeartbeats 2000000
set_option autoImplicit false
/-! A list comprehension that an exception leaves: its item is a call that raises. -/
namespace Rh
open PySem PySem.Spec PyProof.Rows L2
variable [Tbs]
open PySem.HandSPX
/-- the block's own dict is let go -/
theorem HeldZ.less {B h1 h2 : Heap} {l : List Env} {a C L : Addr} {Z : Obj → Prop} {m : Str → Option Value} (hh : HeldZ B l a Z L h1) (sb : Heap.SameBut C h1 h2) (nC : h1.Ns C m) (fC : C ∉ frs l) :
    ∃ B2 : Heap, (∀ b, b ≠ C → B2.get? b = B.get? b) ∧ HeldZ B2 l a Z L h2 := by
  obtain ⟨B2, g1, g2⟩ := restrict B fun b => !decide (b = C)
  have e1 : ∀ b, b ≠ C → B2.get? b = B.get? b := fun b hb => g1 b (by simp [hb])
  have e2 : B2.get? C = none := g2 C (by simp)
  refine ⟨B2, e1, ?_⟩
  obtain ⟨f1, f2, f3, oe, vs, T, oT, ts, q1, q2, q3, q4, q5, q6, q7, q8, q9⟩ := hh
  obtain ⟨oC, es, ep, hoC, hdC, _⟩ := nC
  have ne : ∀ b o, h1.get? b = some o → (∃ ws, o.data = .fields ws) → b ≠ C := fun b o e ⟨ws, z⟩ q => by
    rw [q, hoC] at e
    cases e
    rw [hdC] at z
    cases z
  have nB : ∀ b, B.get? b = none → B2.get? b = none := fun b e => by
    by_cases hb : b = C
    · rw [hb]; exact e2
    · rw [e1 b hb]; exact e
  refine ⟨fun b o e => ?_, nB a f2, ?_, oe, vs, T, oT, ts, (sb.2 a (ne a oe q1 ⟨vs, q3⟩)).trans q1, q2, q3, q4, nB T q5, q6, (sb.2 T (ne T oT q7 ⟨ts, q8⟩)).trans q7, q8, q9⟩
  · by_cases hb : b = C
    · rw [hb, e2] at e; cases e
    · rw [e1 b hb] at e
      exact (sb.2 b hb).trans (f1 b o e)
  · have key : ∀ l : List Env, (∀ b ∈ frs l, b ≠ C) → h1.FunFrames B l → h2.FunFrames B2 l := by
      intro l
      induction l with
      | nil => exact fun _ _ => trivial
      | cons env r ih =>
        intro hl ⟨hk, ⟨L', o, hf, hn, ho, hd⟩, hr⟩
        have hL : L' ≠ C := hl L' (List.mem_filterMap.mpr ⟨env, List.mem_cons_self, hf⟩)
        exact ⟨hk, ⟨L', o, hf, nB L' hn, (sb.2 L' hL).trans ho, hd⟩, ih (fun b hb => hl b (by
          obtain ⟨e, he, q⟩ := List.mem_filterMap.mp hb
          exact List.mem_filterMap.mpr ⟨e, List.mem_cons_of_mem _ he, q⟩)) hr⟩
    exact key l (fun b hb z => fC (z ▸ hb)) f3
end Rh

set_option Elab.async false
set_option linter.all false
set_option maxRecDepth 100000
set_option maxHeartbeats 2000000
set_option autoImplicit false
/-! The loop of such a comprehension. -/
namespace Rh
open PySem PySem.Spec PyProof.Rows L2
variable [Tbs]
open PySem.HandSPX
section
variable {X : Cx} {s s' : Shared} {H H' : Hp} {sc : Scope} {ce : Env} {fp : List Addr} {xe : Value → Shared → Prop} {pb : List (Addr × Obj)} {σ : L2.St}
end
section
variable {X : Cx} {W : WX} {pins : List (Addr × Obj)} {σ : L2.St} {H3 : Hp} {s3 : Shared} {fp : List Addr} {sc : Scope} {ce : Env} {Q : Value → Shared → Prop}
end
end Rh

set_option Elab.async false
set_option linter.all false
set_option maxRecDepth 100000
set_option maxHeartbeats 2000000
set_option autoImplicit false
/-! A list comprehension that an exception leaves: the rule. -/
namespace Rh
open PySem PySem.Spec PyProof.Rows L2
variable [Tbs]
section
variable {X : Cx} {W : WX}
end
end Rh

set_option Elab.async false
set_option linter.all false
set_option maxRecDepth 100000
set_option maxHeartbeats 2000000
set_option autoImplicit false
/-! A list comprehension that an exception leaves: the mirror. -/
namespace Rh
open PySem PySem.Spec PyProof.Rows L2
variable [Tbs]
section
variable {X : Cx} {W : WX} {σ : L2.St} {H : Hp} {Q : VK}
end
/-! ### a call in such a block -/
section
variable {X : Cx} {σ : L2.St} {H : Hp} {Q : VK} {k : Nat} {f : Addr} {fd : FuncData} {ps N : List Str} {np : Nat} {fm : FM} {x : Str} {p pos : Pos} {e : Expr} {es : List Expr} {ms : M (List D)} {EE : XK}
end
end Rh

set_option Elab.async false
set_option linter.all false
set_option maxRecDepth 100000
set_option maxHeartbeats 2000000
set_option autoImplicit false
/-! Instances of the text's own classes: attributes, methods, making. -/
namespace Rh
open PySem PySem.Spec PyProof.Rows L2
variable [Tbs]
def lkF (f : Str) : List (Str × D) → Option D
  | [] => none
  | p :: r => match p.1 == f with
    | true => some p.2
    | false => lkF f r
def putFD (f : Str) (d : D) : List (Str × D) → List (Str × D)
  | [] => [(f, d)]
  | p :: r => match p.1 == f with
    | true => (p.1, d) :: r
    | false => p :: putFD f d r
section
variable {C : Ct} {μ : Mu} {H : Hp}
theorem lkF_rep {f : Str} : ∀ {fs : List (Str × D)} {vs : List (Str × V)}, vs.map (·.1) = fs.map (·.1) → RepL C μ H (fs.map (·.2)) (vs.map (·.2)) → match lkF f fs with
    | some d => ∃ v, vs.lookup f = some v ∧ RepV C μ H d v
    | none => vs.lookup f = none
  | [], [], _, _ => rfl
  | p :: r, (g, v) :: rs, k, q => by
    have k1 : g = p.1 := (List.cons.inj k).1
    have k2 : rs.map (·.1) = r.map (·.1) := (List.cons.inj k).2
    obtain ⟨v', r', e, q1, q2⟩ := q
    obtain ⟨e1, e2⟩ := List.cons.inj e
    have e1 : v = v' := e1
    subst k1 e1 e2
    have ih := lkF_rep (f := f) k2 q2
    unfold lkF
    rw [List.lookup_cons]
    cases b : (p.1 == f) with
    | true =>
      rw [show (f == p.1) = true by rw [eq_of_beq b]; exact beq_self_eq_true _]
      exact ⟨v, rfl, q1⟩
    | false =>
      rw [show (f == p.1) = false by
        cases z : f == p.1 with
        | false => rfl
        | true => rw [eq_of_beq z, beq_self_eq_true] at b; cases b]
      exact ih
theorem putFD_rep {f : Str} {d : D} {v : V} (rd : RepV C μ H d v) : ∀ {fs : List (Str × D)} {vs : List (Str × V)}, vs.map (·.1) = fs.map (·.1) → RepL C μ H (fs.map (·.2)) (vs.map (·.2)) →
    (L2.putF f v vs).map (·.1) = (putFD f d fs).map (·.1) ∧ RepL C μ H ((putFD f d fs).map (·.2)) ((L2.putF f v vs).map (·.2))
  | [], [], _, _ => ⟨rfl, v, [], rfl, rd, rfl⟩
  | p :: r, (g, u) :: rs, k, q => by
    have k1 : g = p.1 := (List.cons.inj k).1
    have k2 : rs.map (·.1) = r.map (·.1) := (List.cons.inj k).2
    obtain ⟨v', r', e, q1, q2⟩ := q
    obtain ⟨e1, e2⟩ := List.cons.inj e
    have e1 : u = v' := e1
    subst k1 e1 e2
    obtain ⟨i1, i2⟩ := putFD_rep (f := f) (d := d) (v := v) rd k2 q2
    unfold putFD L2.putF
    cases b : (p.1 == f) with
    | true =>
      rw [if_pos (eq_of_beq b)]
      exact ⟨congrArg (p.1 :: ·) k2, v, _, rfl, rd, q2⟩
    | false =>
      rw [if_neg fun z => by rw [z, beq_self_eq_true] at b; cases b]
      exact ⟨congrArg (p.1 :: ·) i1, u, _, rfl, q1, i2⟩
end
/-- the classes in the list have no attribute f of their own -/
def AtK (K : PySem.W.Frag) (mg : Str → Option Value) (cs : List Str) (f : Str) : Prop := ∀ c ∈ cs, ∀ C0, mg c = some (.ref C0) → Cls K C0 ∧ NoAttr K C0 f
theorem atK_nil {K : PySem.W.Frag} {mg : Str → Option Value} {f : Str} : AtK K mg [] f := fun _ h => nomatch h
theorem atK_cons {K : PySem.W.Frag} {mg : Str → Option Value} {f c : Str} {C0 : Addr} {cs : List Str} (hm : mg c = some (.ref C0)) (cl : Cls K C0) (na : NoAttr K C0 f) (r : AtK K mg cs f) : AtK K mg (c :: cs) f := fun c' hc C1 h1 => by
  rcases List.mem_cons.mp hc with e | hc
  · rw [e, hm] at h1
    cases h1
    exact ⟨cl, na⟩
  · exact r c' hc C1 h1
def dFld (cs : List Str) (f : Str) (h : Hs) (d : D) : Option Nv := match d with
  | .box n => (match h.get n with
    | some (.ins c fs) => (match cs.contains c with
      | true => (match lkF f fs with
        | some d => some (.v d)
        | none => none)
      | false => none)
    | _ => none)
  | _ => none
theorem dFld_some {cs : List Str} {f : Str} {h : Hs} {d : D} {n : Nv} (e : dFld cs f h d = some n) : ∃ i c fs x, d = .box i ∧ h.get i = some (.ins c fs) ∧ c ∈ cs ∧ lkF f fs = some x ∧ n = .v x := by
  unfold dFld at e
  split at e
  · rename_i i
    split at e
    · rename_i c fs e0
      split at e
      · rename_i hc
        split at e
        · rename_i x el
          cases e
          exact ⟨i, c, fs, x, rfl, e0, List.elem_iff.mp hc, el, rfl⟩
        · cases e
      · cases e
    · cases e
  · cases e
/-- where an instance is, and what it holds -/
theorem ins_at {C : Ct} {L : List Nat} {μ : Mu} {H : Hp} {h : Hs} (r : HR C L μ H h) {i : Nat} {x : V} (rx : RepV C μ H (.box i) x) {c : Str} {fs : List (Str × D)} (e : h.get i = some (.ins c fs)) :
    ∃ a C0 dx vs, x = .ref a ∧ μ[i]? = some a ∧ C.mg c = some (.ref C0) ∧ H a = some (.ins C0 dx vs) ∧ vs.map (·.1) = fs.map (·.1) ∧ RepL C μ H (fs.map (·.2)) (vs.map (·.2)) := by
  obtain ⟨a, rfl, m⟩ := rx
  obtain ⟨o, e1, q⟩ := r.ob i a m
  rw [e] at e1
  cases e1
  obtain ⟨C0, dx, vs, q1, q2, q3, q4⟩ := q
  exact ⟨a, C0, dx, vs, rfl, m, q1, q2, q3, q4⟩
section
variable {X : Cx} {W : WX} {σ : L2.St} {H : Hp} {Q : VK}
theorem e_fld {e : Expr} {m : M D} {f : Str} {cs : List Str} {pos : Pos} (he : PE X e (rd X W m)) (t : AtK X.K X.mg cs f) (hb : attributeBase e f X.env (eval e X.env) = eval e X.env := by rfl) : PE X (.Attribute e f pos) (rd X W (mOp1 (dFld cs f) m)) := by
  refine pe_imp (pe_fld he hb) fun σ H Q q => rdG_imp (rdG_bind q) fun ρ L d h1 μ1 H1 ⟨rel1, q1⟩ x rx => ?_
  obtain ⟨n, en, want⟩ := Sat.lift rel1.hr q1
  obtain ⟨i, c, fs, y, rfl, e0, hc, el, rfl⟩ := dFld_some en
  obtain ⟨a, C0, dx, vs, rfl, _, gC, e1, k1, k2⟩ := ins_at rel1.hr rx e0
  have lk := lkF_rep (f := f) k1 k2
  rw [el] at lk
  obtain ⟨v, l1, rv⟩ := lk
  obtain ⟨cl, na⟩ := t c hc C0 gC
  exact ⟨a, C0, dx, vs, v, rfl, e1, cl, na, l1, want.old rv⟩
/-- o.f = value -/
def putA (cs : List Str) (f : Str) (h : Hs) (o d : D) : Option Hs := match o with
  | .box n => (match h.get n with
    | some (.ins c fs) => (match cs.contains c with
      | true => if fs.length < 1000 then h.set n (.ins c (putFD f d fs)) else none
      | false => none)
    | _ => none)
  | _ => none
theorem putA_some {cs : List Str} {f : Str} {h h' : Hs} {o d : D} (e : putA cs f h o d = some h') : ∃ i c fs, o = .box i ∧ h.get i = some (.ins c fs) ∧ c ∈ cs ∧ fs.length < 1000 ∧ h.set i (.ins c (putFD f d fs)) = some h' := by
  unfold putA at e
  split at e
  · rename_i i
    split at e
    · rename_i c fs e0
      split at e
      · rename_i hc
        split at e
        · rename_i hl
          exact ⟨i, c, fs, rfl, e0, List.elem_iff.mp hc, hl, e⟩
        · cases e
      · cases e
    · cases e
  · cases e
/-- the heap behind such a store -/
theorem putA_ok {C : Ct} {L : List Nat} {μ : Mu} {H : Hp} {h h' : Hs} {a C0 dx : Addr} {c f : Str} {fs : List (Str × D)} {vs : List (Str × V)} {i : Nat} {d : D} {v : V} (r : HR C L μ H h) (m : μ[i]? = some a) (gC : C.mg c = some (.ref C0)) (e1 : H a = some (.ins C0 dx vs))
    (k1 : vs.map (·.1) = fs.map (·.1)) (k2 : RepL C μ H (fs.map (·.2)) (vs.map (·.2))) (rv : RepV C μ H d v) (e : h.set i (.ins c (putFD f d fs)) = some h') :
    HR C L μ (upd H a (.ins C0 dx (putF f v vs))) h' ∧ Go L μ H μ (upd H a (.ins C0 dx (putF f v vs))) := by
  have st := stay_upd r m (.ins C0 dx (putF f v vs))
  obtain ⟨j1, j2⟩ := putFD_rep (f := f) rv k1 k2
  exact r.upd (o := .ins c (putFD f d fs)) m ⟨C0, dx, _, gC, upd_same, j1, j2.stay st⟩ e
def mSetA (cs : List Str) (f : Str) (mo mv : M D) : MS := mDo mv fun d => mDo mo fun o => fun ρ h => match putA cs f h o d with
  | some h' => some (.nx ρ h')
  | none => none
theorem s_setA {o value : Expr} {mo mv : M D} {f : Str} {cs : List Str} {pos pos' : Pos} (ho : PE X o (rd X W mo)) (hv : PE X value (rd X W mv)) (t : AtK X.K X.mg cs f) (hs : swapsWith value (some (.Attribute o f pos')) pos.line X.env = pure false := by rfl) :
    PS X (.Assign [.Attribute o f pos'] value pos) (rdS X W (mSetA cs f mo mv)) := by
  refine ps_imp (ps_fld ho hv hs) fun D σ H q => rdG_imp (rdS_bind q) fun ρ L d h1 μ1 H1 ⟨rel1, q1⟩ v rv => ?_
  have q2 : rdS X W (mDo mo fun o => fun ρ h => match putA cs f h o d with
    | some h' => some (.nx ρ h')
    | none => none) D σ H1 := ⟨ρ, L, μ1, h1, rel1, q1⟩
  have q3 : rdG X W mo σ H1 fun ρ L a h2 μ2 H2 => Rel (ctX X) L ρ σ μ2 H2 h2 ∧ RepV (ctX X) μ2 H2 d v ∧ SatS X W D L μ2 H2 (match putA cs f h2 a d with
    | some h' => some (.nx ρ h')
    | none => none) := ⟨ρ, L, μ1, h1, rel1, (q1.bind rel1).imp fun a h2 μ2 H2 g r p => ⟨p.1, rv.go rel1.hr g, p.2⟩⟩
  refine rdG_imp q3 fun ρ L od h2 μ2 H2 ⟨rel2, rv2, q4⟩ x rx => ?_
  cases e : putA cs f h2 od d with
  | none => rw [e] at q4; exact SatS.none q4
  | some h3 =>
    rw [e] at q4
    obtain ⟨i, c, fs, rfl, e0, hc, hl, es⟩ := putA_some e
    obtain ⟨a, C0, dx, vs, rfl, m, gC, e1, k1, k2⟩ := ins_at rel2.hr rx e0
    obtain ⟨cl, na⟩ := t c hc C0 gC
    obtain ⟨r3, g3⟩ := putA_ok rel2.hr m gC e1 k1 k2 rv2 es
    have len : vs.length = fs.length := by rw [← List.length_map (f := (·.1)), k1, List.length_map]
    exact ⟨a, C0, dx, vs, rfl, e1, cl, na, by rw [len]; exact hl, q4 σ μ2 _ g3 (rel2.go g3 r3)⟩
def clsD (h : Hs) (o : D) : Option Str := match o with
  | .box n => (match h.get n with
    | some (.ins c _) => some c
    | _ => none)
  | _ => none
/-- o.f += value, whole numbers -/
def mAugA (cs : List Str) (f : Str) (mo mv : M D) : MS := mDo mo fun o => fun ρ h => match dFld cs f h o with
  | some (.v (.int i)) => mDo mv (fun d => fun ρ h2 => match d with
    | .int j => if clsD h o = clsD h2 o then (match putA cs f h2 o (.int (i + j)) with
      | some h' => some (.nx ρ h')
      | none => none) else none
    | _ => none) ρ h
  | _ => none
theorem s_augA {o value : Expr} {mo mv : M D} {f : Str} {cs : List Str} {pos tpos : Pos} (ho : PE X o (rd X W mo)) (hv : PE X value (rd X W mv)) (t : AtK X.K X.mg cs f) :
    PS X (.AugAssign (.Attribute o f tpos) .Add value pos) (rdS X W (mAugA cs f mo mv)) := by
  refine ps_imp (ps_fldaug ho hv in_add) fun D σ H q => rdG_imp (rdS_bind q) fun ρ L od h1 μ1 H1 ⟨rel1, q1⟩ x rx => ?_
  cases en : dFld cs f h1 od with
  | none => simp only [en] at q1; exact SatS.none q1
  | some n =>
    obtain ⟨i, c, fs, y, rfl, e0, hc, el, rfl⟩ := dFld_some en
    obtain ⟨a, C0, dx, vs, rfl, m, gC, e1, k1, k2⟩ := ins_at rel1.hr rx e0
    have lk := lkF_rep (f := f) k1 k2
    rw [el] at lk
    obtain ⟨v, l1, rv⟩ := lk
    obtain ⟨cl, na⟩ := t c hc C0 gC
    simp only [en] at q1
    cases y with
    | int z =>
      dsimp only at q1
      cases (show v = .int z from rv)
      refine ⟨a, C0, dx, vs, .int z, rfl, e1, cl, na, l1, ?_⟩
      have q3 : rdG X W mv σ H1 fun ρ L d h2 μ2 H2 => Rel (ctX X) L ρ σ μ2 H2 h2 ∧ RepV (ctX X) μ2 H2 (.box i) (.ref a) ∧ SatS X W D L μ2 H2 (match d with
        | .int j => if clsD h1 (.box i) = clsD h2 (.box i) then (match putA cs f h2 (.box i) (.int (z + j)) with
          | some h' => some (.nx ρ h')
          | none => none) else none
        | _ => none) := ⟨ρ, L, μ1, h1, rel1, (SatS.bind rel1 q1).imp fun d h2 μ2 H2 g r p => ⟨p.1, rx.go rel1.hr g, p.2⟩⟩
      refine rdG_imp q3 fun ρ L d h2 μ2 H2 ⟨rel2, rx2, q4⟩ w rw' => ?_
      cases d with
      | int j =>
        cases (show w = .int j from rw')
        dsimp only at q4
        split at q4
        rotate_left
        · exact SatS.none q4
        rename_i hcl
        cases e : putA cs f h2 (.box i) (.int (z + j)) with
        | none => rw [e] at q4; exact SatS.none q4
        | some h3 =>
          rw [e] at q4
          obtain ⟨i', c', fs', ei, e0', hc', hl, es⟩ := putA_some e
          cases ei
          obtain ⟨a', C0', dx', vs', ea, m', gC', e1', k1', k2'⟩ := ins_at rel2.hr rx2 e0'
          cases ea
          obtain ⟨r3, g3⟩ := putA_ok (d := .int (z + j)) (v := .int (z + j)) rel2.hr m' gC' e1' k1' k2' rfl es
          have len : vs'.length = fs'.length := by rw [← List.length_map (f := (·.1)), k1', List.length_map]
          have ec : c = c' := by
            unfold clsD at hcl
            dsimp only at hcl
            rw [e0, e0'] at hcl
            exact Option.some.inj hcl
          rw [ec, gC'] at gC
          cases gC
          exact ⟨z, j, rfl, rfl, dx', vs', e1', by rw [len]; exact hl, q4 σ μ2 _ g3 (rel2.go g3 r3)⟩
      | _ => exact SatS.none q4
    | _ => exact SatS.none q1
end
end Rh

set_option Elab.async false
set_option linter.all false
set_option maxRecDepth 100000
set_option maxHeartbeats 2000000
set_option autoImplicit false
/-! Methods of the text's own classes, instances made. -/
namespace Rh
open PySem PySem.Spec PyProof.Rows L2
variable [Tbs]
def mMtO (c m : Str) (f : FM) (mo : M D) (ms : M (List D)) : M D := mBind mo fun d => fun ρ h => match d with
  | .box n => (match h.get n with
    | some (.ins c' fs) => (match (c' == c) with
      | true => (match lkF m fs with
        | none => mCall f (mBind ms fun as => mPure (.box n :: as)) ρ h
        | some _ => none)
      | false => none)
    | _ => none)
  | _ => none
def mMake (c : Str) (f : FM) (ms : M (List D)) : M D := mBind ms fun as => fun _ h => match h.new (.ins c []) with
  | none => none
  | some h1 => (match f (.box h.n :: as) h1 with
    | some (.rt .non h2) => some (.ok (.box h.n) h2)
    | some (.ex cc fs h2) => some (.ex cc fs h2)
    | _ => none)
/-- o.m(..): what is asked -/
def tMethD (C : Addr) (m : Str) (sp : Sp) (E : L2.St → XK) (ta : TE) (t : TA) : TE := fun σ H Q => ta σ H fun x H1 => ∃ a dx fs, x = .ref a ∧ H1 a = some (.ins C dx fs) ∧ fs.lookup m = none ∧ t σ H1 fun vs H2 => sp (x :: vs) H2 Q (E σ)
/-- C(..): what is asked -/
def tMakeD (C : Addr) (sp : Sp) (E : L2.St → XK) (t : TA) : TE := fun σ H Q => t σ H fun vs H1 => ∀ x dx, H1 x = none → H1 dx = none → dx ≠ x → sp (.ref x :: vs) (upd (upd H1 dx (.own x)) x (.ins C dx [])) (fun v H2 => v = .non ∧ Q (.ref x) H2) (E σ)
section
variable {X : Cx} {W : WX} {σ : L2.St} {H : Hp} {Q : VK} {k : Nat} {f C : Addr} {fd : FuncData} {ps : List Str} {np : Nat} {fm : FM} {x c m : Str} {p pos apos : Pos} {o e : Expr} {es : List Expr} {mo : M D} {ms : M (List D)} {ta : TE} {t : TA} {sp : Sp} {E : L2.St → XK}
theorem pe_methD {pl : Sem Bool} (he : PE X o ta) (c : Cls X.K C) (hm : Meth X.K C m f) (F : FnOk X.prog X.w X.K X.mg X.base (L2.CX X.prog X.w) k f fd ps sp) (hr : Room k X.A) (hb : Binds X.K fd ps []) (hx : ∀ σ, PassesAt (L2.CX X.prog X.w) X σ (E σ)) (ha : PA X (e :: es) t)
    (h1 : starEach (e :: es) X.env = (false, eval e X.env) :: starEach es X.env := by rfl) (h2 : (backTo pos (starEach es X.env)).any (·.1) = false := by rfl)
    (h3 : eval (.Call (.Attribute o m apos) (e :: es) [] pos) X.env = (do let ov ← eval o X.env; standAt apos.atName; let (f, first) ← holding [ov] (getMethod ov m pl); callWith pos f first (backTo pos (starEach (e :: es) X.env)) (backToKw pos (keywordEach [] X.env))) := by rfl) :
    PE X (.Call (.Attribute o m apos) (e :: es) [] pos) (tMethD C m sp E ta t) := by
  refine ⟨fun pins s σ H Q I h => PySem.W.methodCall_KW (pl := pl) (thn (he.run pins s σ H _ I h) fun u s1 ⟨x, H1, I1, rx, a, dx, fs, ex, ea, l, q⟩ => ?_) h3⟩
  subst ex
  cases (show u = Value.ref a from rx)
  refine getmeth_ok I1 ea c hm l (PySem.W.callWith_K (first := [.ref a]) (h₀ := X.base) I.ok.mod.kin hm.kp (thn (ha.run pos pins s1 σ H1 _ I1 q) fun us s2 ⟨vs, H2, I2, r, q2⟩ => ⟨I2.kIn, ?_⟩) h1 h2)
  exact run_fnSD (us := .ref a :: us) (vs := .ref a :: vs) F hr hb .nil (hx σ) I2 (.cons rfl r) (by rw [List.append_nil]; exact q2)
theorem pe_methD0 {pl : Sem Bool} (he : PE X o ta) (c : Cls X.K C) (hm : Meth X.K C m f) (F : FnOk X.prog X.w X.K X.mg X.base (L2.CX X.prog X.w) k f fd ps sp) (hr : Room k X.A) (hb : Binds X.K fd ps []) (hx : ∀ σ, PassesAt (L2.CX X.prog X.w) X σ (E σ))
    (h3 : eval (.Call (.Attribute o m apos) [] [] pos) X.env = (do let ov ← eval o X.env; standAt apos.atName; let (f, first) ← holding [ov] (getMethod ov m pl); callWith pos f first (backTo pos (starEach [] X.env)) (backToKw pos (keywordEach [] X.env))) := by rfl) :
    PE X (.Call (.Attribute o m apos) [] [] pos) (tMethD C m sp E ta tNil) := by
  refine ⟨fun pins s σ H Q I h => PySem.W.methodCall_KW (pl := pl) (thn (he.run pins s σ H _ I h) fun u s1 ⟨x, H1, I1, rx, a, dx, fs, ex, ea, l, q⟩ => ?_) h3⟩
  subst ex
  cases (show u = Value.ref a from rx)
  exact getmeth_ok I1 ea c hm l (PySem.W.callWith_K0 (first := [.ref a]) I1.kIn hm.kp (run_fnSD (us := [.ref a]) (vs := [.ref a]) F hr hb .nil (hx σ) I1 (.cons rfl .nil) q))
/-- the instance is made -/
theorem run_makeD {pins : List (Addr × Obj)} {s : Shared} {us : List Value} {vs : List V} {EE : XK} (M : Mk X.K C f) (F : FnOk X.prog X.w X.K X.mg X.base (L2.CX X.prog X.w) k f fd ps sp) (hr : Room (k + 1) X.A) (hb : Binds X.K fd ps []) (hx : PassesAt (L2.CX X.prog X.w) X σ EE) (I : Inv X pins σ H s) (r : Vals vs us)
    (h : ∀ x dx, H x = none → H dx = none → dx ≠ x → sp (.ref x :: vs) (upd (upd H dx (.own x)) x (.ins C dx [])) (fun v H2 => v = .non ∧ Q (.ref x) H2) EE) : wpAny (model X.prog X.w) X.A (call (.ref C) us) (EP X pins σ Q) X.xe s := by
  have q0 := h (s.heap.objs.size + 1) s.heap.objs.size (I.hok.fresh (Nat.le_succ _)) (I.hok.fresh (Nat.le_refl _)) (Nat.ne_of_lt (Nat.lt_succ_self _))
  have J := Inv.made (C := C) I
  have rr : Vals (V.ref (s.heap.objs.size + 1) :: vs) (Value.ref (s.heap.objs.size + 1) :: us) := .cons rfl r
  have ln : ((Value.ref (s.heap.objs.size + 1) :: us) ++ []).length = ps.length := by
    rw [List.append_nil, ← rr.length]
    exact F.len _ _ _ _ q0
  have hb2 := hb _ (Value.ref (s.heap.objs.size + 1) :: us) J.kIn ln
  rw [List.append_nil] at hb2
  refine wpAny_call (make_map (f := f) I.kIn M.makes M.init (beq_iff_eq.mp M.fn) (codeAny_mono (F.run _ X.stack _ _ ⟨Value.ref (s.heap.objs.size + 1) :: us, []⟩ _ _ _ EE (hr.make C us []) (J.env0.make C us []) hb2 rr q0) fun z s' hz => ?_))
  cases z with
  | error u => exact hx pins _ _ u s' J hz
  | ok fl =>
    cases fl with
    | ret u =>
      obtain ⟨v, H', J2, rv, ev, q3⟩ := J.after hz
      subst ev
      exact ⟨rv, V.ref (s.heap.objs.size + 1), H', J2, rfl, q3⟩
    | _ => exact False.elim hz
theorem pe_makeD (M : Mk X.K C f) (F : FnOk X.prog X.w X.K X.mg X.base (L2.CX X.prog X.w) k f fd ps sp) (hr : Room (k + 1) X.A) (hg : Gl X x) (hm : X.mg x = some (.ref C)) (hb : Binds X.K fd ps []) (hx : ∀ σ, PassesAt (L2.CX X.prog X.w) X σ (E σ)) (ha : PA X (e :: es) t)
    (hdb : (x == ("__debug__" : Str)) = false := by decide) (h1 : starEach (e :: es) X.env = (false, eval e X.env) :: starEach es X.env := by rfl) (h2 : (backTo pos (starEach es X.env)).any (·.1) = false := by rfl) : PE X (.Call (.Name x p) (e :: es) [] pos) (tMakeD C sp E t) := by
  refine ⟨fun pins s σ H Q I h => wpAny_Call_Name_kw (ld_glob I hg hm (PySem.W.callWith_K (h₀ := X.base) I.ok.mod.kin M.kp (thn (ha.run pos pins s σ H _ I h) fun us s1 ⟨vs, H1, I1, r, q⟩ => ⟨I1.kIn, ?_⟩) h1 h2) hdb)⟩
  exact run_makeD M F hr hb (hx σ) I1 r q
/-! the mirrors' readings -/
theorem rd_mtO (hlen : LenM ms np) (gC : X.mg c = some (.ref C)) (q : rd X W (mMtO c m fm mo ms) σ H Q) : tMethD C m (spF (ctX X) (np + 1) fm) (fun σ cls d H' => W cls d σ H') (rd X W mo) (rdA X W ms) σ H Q := by
  refine rdG_imp (rdG_bind q) fun ρ L d h1 μ1 H1 ⟨rel1, q1⟩ x rx => ?_
  cases d with
  | box n =>
    dsimp only at q1
    cases e0 : h1.get n with
    | none => rw [e0] at q1; exact q1.none
    | some oo =>
      rw [e0] at q1
      cases oo with
      | ins c' fs =>
        dsimp only at q1
        cases hc : (c' == c) with
        | false => rw [hc] at q1; exact q1.none
        | true =>
          rw [hc] at q1
          dsimp only at q1
          cases el : lkF m fs with
          | some _ => rw [el] at q1; exact q1.none
          | none =>
            rw [el] at q1
            dsimp only at q1
            obtain ⟨a, C0, dx, vs, rfl, _, gC', e1, k1, k2⟩ := ins_at rel1.hr rx e0
            have gC' : X.mg c' = some (.ref C0) := gC'
            rw [eq_of_beq hc, gC] at gC'
            cases gC'
            have lk := lkF_rep (f := m) k1 k2
            rw [el] at lk
            refine ⟨a, dx, vs, rfl, e1, lk, ρ, L, μ1, h1, rel1, ?_⟩
            have q2 := Sat.bind rel1 q1
            unfold mBind at q2
            cases em : ms ρ h1 with
            | none => rw [em] at q2; exact q2.none
            | some r =>
              rw [em] at q2
              cases r with
              | ex cc fs2 h2 => exact q2
              | ok as h2 =>
                intro μ2 H2 g2 r2 us rs
                obtain ⟨_, rel2, q3⟩ := q2 μ2 H2 g2 r2
                exact sp_of (as := .box n :: as) (congrArg Nat.succ (hlen ρ h1 as h2 em)) rel2.hr ⟨_, _, rfl, rx.go rel1.hr g2, rs⟩ q3
      | _ => exact q1.none
  | _ => exact q1.none
theorem rd_mtO0 (gC : X.mg c = some (.ref C)) (q : rd X W (mMtO c m fm mo mNil) σ H Q) : tMethD C m (spF (ctX X) 1 fm) (fun σ cls d H' => W cls d σ H') (rd X W mo) tNil σ H Q := by
  refine rdG_imp (rdG_bind q) fun ρ L d h1 μ1 H1 ⟨rel1, q1⟩ x rx => ?_
  cases d with
  | box n =>
    dsimp only at q1
    cases e0 : h1.get n with
    | none => rw [e0] at q1; exact q1.none
    | some oo =>
      rw [e0] at q1
      cases oo with
      | ins c' fs =>
        dsimp only at q1
        cases hc : (c' == c) with
        | false => rw [hc] at q1; exact q1.none
        | true =>
          rw [hc] at q1
          dsimp only at q1
          cases el : lkF m fs with
          | some _ => rw [el] at q1; exact q1.none
          | none =>
            rw [el] at q1
            dsimp only at q1
            obtain ⟨a, C0, dx, vs, rfl, _, gC', e1, k1, k2⟩ := ins_at rel1.hr rx e0
            have gC' : X.mg c' = some (.ref C0) := gC'
            rw [eq_of_beq hc, gC] at gC'
            cases gC'
            have lk := lkF_rep (f := m) k1 k2
            rw [el] at lk
            exact ⟨a, dx, vs, rfl, e1, lk, sp_of (as := [.box n]) rfl rel1.hr ⟨_, _, rfl, rx, rfl⟩ q1⟩
      | _ => exact q1.none
  | _ => exact q1.none
theorem rd_make (hlen : LenM ms np) (gC : X.mg c = some (.ref C)) (q : rd X W (mMake c fm ms) σ H Q) : tMakeD C (spF (ctX X) (np + 1) fm) (fun σ cls d H' => W cls d σ H') (rdA X W ms) σ H Q := by
  obtain ⟨ρ, L, μ, h, rel, q0⟩ := q
  refine ⟨ρ, L, μ, h, rel, ?_⟩
  have q2 := Sat.bind rel q0
  cases em : ms ρ h with
  | none => rw [em] at q2; exact q2.none
  | some r =>
    rw [em] at q2
    cases r with
    | ex cc fs2 h2 => exact q2
    | ok as h2 =>
      intro μ1 H1 g1 r1 us rs x dx hx hdx ne
      obtain ⟨_, rel1, q3⟩ := q2 μ1 H1 g1 r1
      dsimp only at q3
      cases en : h2.new (.ins c []) with
      | none => simp only [en] at q3; exact q3.none
      | some h3 =>
        simp only [en] at q3
        have hx' : upd H1 dx (.own x) x = none := by rw [upd_ne (Ne.symm ne)]; exact hx
        obtain ⟨s1, s2⟩ := same_new (o := HO.own x) hdx
        obtain ⟨s3, s4⟩ := same_new (o := HO.ins C dx []) hx'
        have ss : Same H1 (upd (upd H1 dx (.own x)) x (.ins C dx [])) := fun b u e => s3 b u (s1 b u e)
        have dm : ∀ a, upd (upd H1 dx (.own x)) x (.ins C dx []) a = none → H1 a = none := fun b e => s2 b (s4 b e)
        have nx : x ∉ μ1 := fun m => by
          obtain ⟨u, e, _⟩ := rel1.hr.mut m
          rw [hx] at e; cases e
        have r3 := (rel1.hr.same ss).adopt nx (o := .ins c []) ⟨C, dx, [], gC, upd_same, rfl, rfl⟩ en
        have g3 : Go L μ1 H1 (μ1 ++ [x]) (upd (upd H1 dx (.own x)) x (.ins C dx [])) := (Go.same rel1.hr ss dm).adopt hx
        have rb : RepV (ctX X) (μ1 ++ [x]) (upd (upd H1 dx (.own x)) x (.ins C dx [])) (.box h2.n) (.ref x) := ⟨x, rfl, by rw [← rel1.hr.len, List.getElem?_append_right (Nat.le_refl _)]; simp⟩
        refine ⟨L, μ1 ++ [x], h3, .box h2.n :: as, ?_, ⟨_, _, rfl, rb, rs.go rel1.hr g3⟩, r3, ?_⟩
        · show us.length + 1 = np + 1
          rw [rs.length, hlen ρ h as h2 em]
        · cases ef : fm (.box h2.n :: as) h3 with
          | none => simp only [ef] at q3; exact q3.none
          | some fr =>
            simp only [ef] at q3
            cases fr with
            | ex cc fs2 h4 => exact fun cls dd μ' H' g r rx => q3 cls dd μ' H' (g3.trans g) r rx
            | rt d h4 =>
              cases d with
              | non => exact fun v μ' H' g r rv => ⟨rv, q3 μ' H' (g3.trans g) r (.ref x) (rb.go r3 g)⟩
              | _ => exact q3.none
/-! the rules -/
theorem e_mtO {pl : Sem Bool} (he : PE X o (rd X W mo)) (cl : Cls X.K C) (hm : Meth X.K C m f) (F : FnOk X.prog X.w X.K X.mg X.base (L2.CX X.prog X.w) k f fd ps (spF (ctX X) (np + 1) fm)) (hr : Room k X.A) (hb : Binds X.K fd ps []) (tk : Takes X W) (gC : X.mg c = some (.ref C)) (hlen : LenM ms np) (ha : PA X (e :: es) (rdA X W ms))
    (h1 : starEach (e :: es) X.env = (false, eval e X.env) :: starEach es X.env := by rfl) (h2 : (backTo pos (starEach es X.env)).any (·.1) = false := by rfl)
    (h3 : eval (.Call (.Attribute o m apos) (e :: es) [] pos) X.env = (do let ov ← eval o X.env; standAt apos.atName; let (f, first) ← holding [ov] (getMethod ov m pl); callWith pos f first (backTo pos (starEach (e :: es) X.env)) (backToKw pos (keywordEach [] X.env))) := by rfl) :
    PE X (.Call (.Attribute o m apos) (e :: es) [] pos) (rd X W (mMtO c m fm mo ms)) := pe_imp (pe_methD he cl hm F hr hb (passes_at tk) ha h1 h2 h3) fun _ _ _ h => rd_mtO hlen gC h
theorem e_mtO0 {pl : Sem Bool} (he : PE X o (rd X W mo)) (cl : Cls X.K C) (hm : Meth X.K C m f) (F : FnOk X.prog X.w X.K X.mg X.base (L2.CX X.prog X.w) k f fd ps (spF (ctX X) 1 fm)) (hr : Room k X.A) (hb : Binds X.K fd ps []) (tk : Takes X W) (gC : X.mg c = some (.ref C))
    (h3 : eval (.Call (.Attribute o m apos) [] [] pos) X.env = (do let ov ← eval o X.env; standAt apos.atName; let (f, first) ← holding [ov] (getMethod ov m pl); callWith pos f first (backTo pos (starEach [] X.env)) (backToKw pos (keywordEach [] X.env))) := by rfl) :
    PE X (.Call (.Attribute o m apos) [] [] pos) (rd X W (mMtO c m fm mo mNil)) := pe_imp (pe_methD0 he cl hm F hr hb (passes_at tk) h3) fun _ _ _ h => rd_mtO0 gC h
theorem e_make (M : Mk X.K C f) (F : FnOk X.prog X.w X.K X.mg X.base (L2.CX X.prog X.w) k f fd ps (spF (ctX X) (np + 1) fm)) (hr : Room (k + 1) X.A) (hb : Binds X.K fd ps []) (tk : Takes X W) (hm : X.mg x = some (.ref C)) (hlen : LenM ms np) (hg : Gl X x) (ha : PA X (e :: es) (rdA X W ms))
    (hdb : (x == ("__debug__" : Str)) = false := by decide) (h1 : starEach (e :: es) X.env = (false, eval e X.env) :: starEach es X.env := by rfl) (h2 : (backTo pos (starEach es X.env)).any (·.1) = false := by rfl) : PE X (.Call (.Name x p) (e :: es) [] pos) (rd X W (mMake x fm ms)) :=
  pe_imp (pe_makeD M F hr hg hm hb (passes_at tk) ha hdb h1 h2) fun _ _ _ h => rd_make hlen hm h
end
end Rh

set_option Elab.async false
set_option linter.all false
set_option maxRecDepth 100000
set_option maxHeartbeats 2000000
set_option autoImplicit false
/-! Texts. -/
namespace Rh
open PySem PySem.Spec PyProof.Rows L2
variable [Tbs]
/-! ### operators -/
def dCatS (_ : Hs) (d e : D) : Option Nv := match d, e with
  | .str a, .str b => if a.length + b.length ≤ 1000000 then some (.v (.str (a ++ b))) else none
  | _, _ => none
def dAddS : Hs → D → D → Option Nv := fun h d e => match dCatS h d e with | some n => some n | none => dAdd h d e
def dInSg (_ : Hs) (d e : D) : Option Nv := match d, e with
  | .str a, .str z => (match a.cps.toList with
    | [c] => some (.v (.bl (z.cps.toList.contains c)))
    | _ => none)
  | _, _ => none
def dIxS (_ : Hs) (d e : D) : Option Nv := match d, e with
  | .str z, .int i => if z.length ≤ 1000000 then (match atI z.cps.toList i with
    | some c => some (.v (.str ⟨#[c]⟩))
    | none => none) else none
  | _, _ => none
def dIxA : Hs → D → D → Option Nv := fun h d e => match dIxS h d e with | some n => some n | none => dIx h d e
section
variable {C : Ct}
theorem cov_catS : Cov2 C (fun x y H Q => ∃ i j, x = .str i ∧ y = .str j ∧ i.length + j.length ≤ sizeLine ∧ Q (.str (i ++ j)) H) dCatS := by
  intro H L μ h x y d e n Q hr r1 r2 hf want
  unfold dCatS at hf
  split at hf
  · rename_i a b
    split at hf
    · rename_i hl
      cases hf
      exact ⟨a, b, r1, r2, small6 hl, want.old rfl⟩
    · cases hf
  · cases hf
theorem cov_inSg : Cov2 C (fun x y H Q => ∃ (c : Nat) (z : Str), x = .str ⟨#[c]⟩ ∧ y = .str z ∧ Q (.bl (decide (c ∈ z.cps.toList))) H) dInSg := by
  intro H L μ h x y d e n Q hr r1 r2 hf want
  unfold dInSg at hf
  split at hf
  · rename_i a z
    split at hf
    · rename_i c hc
      cases hf
      have ea : a = ⟨#[c]⟩ := by
        obtain ⟨⟨l⟩⟩ := a
        cases (show l = [c] from hc)
        rfl
      subst ea
      refine ⟨c, z, r1, r2, ?_⟩
      have ec : decide (c ∈ z.cps.toList) = z.cps.toList.contains c := by
        cases q : z.cps.toList.contains c with
        | true => exact decide_eq_true (List.elem_iff.mp q)
        | false => exact decide_eq_false fun m => by rw [show z.cps.toList.contains c = true from List.elem_iff.mpr m] at q; cases q
      rw [ec]
      exact want.old rfl
    · cases hf
  · cases hf
theorem cov_ixS : Cov2 C rIxS dIxS := by
  intro H L μ h x y d e n Q hr r1 r2 hf want
  unfold dIxS at hf
  split at hf
  · rename_i z i
    split at hf
    · rename_i hl
      split at hf
      · rename_i c hc
        cases hf
        exact ⟨z, i, c, r1, r2, small6 hl, hc, want.old rfl⟩
      · cases hf
    · cases hf
  · cases hf
end
section
variable {X : Cx} {W : WX} {a b : Expr} {ma mb : M D} {pos : Pos} {k : Nat}
theorem b_addS (ha : PE X a (rd X W ma)) (hb : PE X b (rd X W mb)) : PE X (.BinOp a .Add b pos) (rd X W (mOp2 dAddS ma mb)) :=
  e_bin (OpR.or' op_add_str (OpR.or' op_add (OpR.or' op_catF op_cat))) (cov_catS.or ((cov_rI0 fun _ _ => rfl).or (cov_catT.or cov_catL))) ha hb
theorem w_inSg : CmpW X .In dInSg := ⟨_, op_in_sign, cov_inSg⟩
theorem x_ixS (hr : Room k X.A) (ha : PE X a (rd X W ma)) (hb : PE X b (rd X W mb)) (hs : PlainIx b := by exact fun _ _ => rfl) : PE X (.Subscript a b pos) (rd X W (mOp2 dIxA ma mb)) :=
  e_ix (IxR.or' ix_str (IxR.or' ix_tup (IxR.or' ix_list (ix_dct (hu_of hr))))) (cov_ixS.or (cov_ixT.or (cov_ixL.or cov_ixD))) ha hb hs
end
/-! ### str(i), int(text) -/
def dStrI (_ : Hs) : List D → Option Nv
  | [.int i] => if Nat.log2 i.natAbs < 1920 then some (.v (.str (toString i))) else none
  | _ => none
def dIntS (h : Hs) (ds : List D) : Option Nv := match ds with
  | [.str a] => if a.length ≤ 640 then (match PySem.intText? a with
    | some n => some (.v (.int n))
    | none => none) else none
  | ds => dInt1 h ds
section
variable {C : Ct}
theorem cov_strI : CovA C (fun xs H Q => ∃ i : Int, xs = [.int i] ∧ i.natAbs.log2 < 1920 ∧ Q (.str (toString i)) H) dStrI := by
  intro H L μ h xs ds n Q hr r1 hf want
  unfold dStrI at hf
  split at hf
  · rename_i i
    split at hf
    · rename_i hl
      cases hf
      obtain ⟨x, rfl, q⟩ := r1.one
      cases (show x = V.int i from q)
      exact ⟨i, rfl, hl, want.old rfl⟩
    · cases hf
  · cases hf
theorem cov_intS : CovA C (fun xs H Q => (∃ a n, xs = [.str a] ∧ PySem.intText? a = some n ∧ a.length ≤ 640 ∧ Q (.int n) H) ∨ ((∃ i, xs = [.int i] ∧ Q (.int i) H) ∨ ∃ k, xs = [.bl k] ∧ Q (.int (if k then 1 else 0)) H)) dIntS := by
  intro H L μ h xs ds n Q hr r1 hf want
  unfold dIntS at hf
  split at hf
  · rename_i a
    split at hf
    · rename_i hl
      split at hf
      · rename_i m hm
        cases hf
        obtain ⟨x, rfl, q⟩ := r1.one
        cases (show x = V.str a from q)
        exact .inl ⟨a, m, rfl, hm, hl, want.old rfl⟩
      · cases hf
    · cases hf
  · exact .inr (cov_int _ _ _ _ _ _ _ _ hr r1 hf want)
end
section
variable {X : Cx} {W : WX} {p pos : Pos} {e : Expr} {es : List Expr} {ms : M (List D)}
theorem f_strI (hv : bootBuiltins "str" = some (.type "str")) (hg : Gl X "str") (hm : X.mg "str" = none) (ha : PA X (e :: es) (rdA X W ms)) (he : starEach (e :: es) X.env = (false, eval e X.env) :: starEach es X.env := by rfl) (hpl : (backTo pos (starEach es X.env)).any (·.1) = false := by rfl) :
    PE X (.Call (.Name "str" p) (e :: es) [] pos) (rd X W (mOpA dStrI ms)) := e_callTy call_str_int cov_strI hv hg hm ha (by decide) (by decide) he hpl
theorem f_intS (hv : bootBuiltins "int" = some (.type "int")) (hg : Gl X "int") (hm : X.mg "int" = none) (ha : PA X (e :: es) (rdA X W ms)) (he : starEach (e :: es) X.env = (false, eval e X.env) :: starEach es X.env := by rfl) (hpl : (backTo pos (starEach es X.env)).any (·.1) = false := by rfl) :
    PE X (.Call (.Name "int" p) (e :: es) [] pos) (rd X W (mOpA dIntS ms)) := e_callTy (CallR.or call_int_str call_int1) cov_intS hv hg hm ha (by decide) (by decide) he hpl
end
/-! ### for c in text -/
def mIterS (m : M D) : M (List D × List Nat) := mBind m fun d => fun _ h => match d with
  | .str z => some (.ok (z.cps.toList.map fun c => .str ⟨#[c]⟩, []) h)
  | _ => none
theorem cover_str {C : Ct} {z : Str} {H1 : Hp} {μ1 : Mu} : Cover C (Its z) (z.cps.toList.map fun c => D.str ⟨#[c]⟩) [] μ1 H1 := by
  refine ⟨fun i μ H st hi => ?_, fun i μ H st hi => ?_, fun i μ H x H' d st y hd => ?_⟩
  · show i < z.cps.size; simpa using hi
  · show z.cps.size ≤ i; have q := hi; simp at q; omega
  · obtain ⟨e, c, hc, rfl⟩ := y
    subst e
    rw [List.getElem?_map, Array.getElem?_toList, hc] at hd
    cases hd
    exact ⟨fun _ _ e => e, fun _ e => e, rfl⟩
theorem i_str {X : Cx} {W : WX} {tg e : Expr} {m : M D} (he : PE X e (rd X W m)) : PI X tg e (rdI X W (mIterS m)) := by
  refine pi_imp (pi_str he) fun σ H R q => rdG_imp (rdG_bind q) fun ρ L d h1 μ1 H1 ⟨rel1, q1⟩ x rx => ?_
  cases d with
  | str z =>
    cases (show x = V.str z from rx)
    exact ⟨z, rfl, q1 μ1 H1 .refl rel1.hr (Its z) cover_str⟩
  | _ => exact q1.none
/-! ### methods of texts with one argument -/
def mM1 (f : Hs → Str → D → Option Nv) (mo me : M D) : M D := mBind mo fun d => fun ρ h => match d with
  | .str a => mBind me (fun y => fun _ h => lift h (f h a y)) ρ h
  | _ => none
/-- what a method gives, from its mirror -/
def CovT (C : Ct) (r : V → List V → Hp → VK → Prop) (f : Hs → Str → D → Option Nv) : Prop := ∀ {H : Hp} {L : List Nat} {μ : Mu} {h : Hs} {y : V} {a : Str} {e : D} {n : Nv} {Q : VK}, HR C L μ H h → RepV C μ H e y → f h a e = some n → Want C μ H n Q → r (.str a) [y] H Q
theorem rd_m1 {X : Cx} {W : WX} {σ : L2.St} {H : Hp} {Q : VK} {r : V → List V → Hp → VK → Prop} {f : Hs → Str → D → Option Nv} {mo me : M D} (c : CovT (ctX X) r f) (q : rd X W (mM1 f mo me) σ H Q) : tM1 r (rd X W mo) (rd X W me) σ H Q := by
  refine rdG_imp (rdG_bind q) fun ρ L d h1 μ1 H1 ⟨rel1, q1⟩ x rx => ?_
  cases d with
  | str a =>
    cases (show x = V.str a from rx)
    refine ⟨⟨a, rfl⟩, ?_⟩
    have q2 : rd X W (mBind me fun y => fun _ h => lift h (f h a y)) σ H1 Q := ⟨ρ, L, μ1, h1, rel1, q1⟩
    refine rdG_imp (rdG_bind q2) fun ρ L e h2 μ2 H2 ⟨rel2, q3⟩ y ry => ?_
    obtain ⟨n, en, want⟩ := Sat.lift rel2.hr q3
    exact c rel2.hr ry en want
  | _ => exact q1.none
def tSplit (_ : Hs) (a : Str) (e : D) : Option Nv := match e with
  | .str b => if (b.length == 0) = false ∧ a.length + 2 ≤ 1000000 then some (.n (.lst ((Txt.split a b).map .str))) else none
  | _ => none
def strsD : List D → Option (List Str)
  | [] => some []
  | .str x :: r => (match strsD r with
    | some l => some (x :: l)
    | none => none)
  | _ :: _ => none
theorem strsD_rep {C : Ct} {μ : Mu} {H : Hp} : ∀ {ds : List D} {ys : List Str} {vs : List V}, strsD ds = some ys → RepL C μ H ds vs → vs = ys.map V.str
  | [], ys, vs, e, r => by cases e; exact r
  | d :: ds, ys, vs, e, ⟨v, r, ev, h1, h2⟩ => by
    cases d with
    | str x =>
      unfold strsD at e
      cases es : strsD ds with
      | none => rw [es] at e; cases e
      | some l =>
        rw [es] at e
        cases e
        rw [ev, strsD_rep es h2, show v = V.str x from h1]
        rfl
    | _ => cases e
theorem strs_repL {C : Ct} {μ : Mu} {H : Hp} : ∀ ys : List Str, RepL C μ H (ys.map .str) (ys.map V.str)
  | [] => rfl
  | x :: r => ⟨_, _, rfl, rfl, strs_repL r⟩
def tJoin (h : Hs) (a : Str) (e : D) : Option Nv := match seqD h e with
  | some ds => (match strsD ds with
    | some ys => if (ys.map (·.length)).sum + ys.length * a.length ≤ 16777216 then some (.v (.str (Txt.join a ys))) else none
    | none => none)
  | none => none
section
variable {C : Ct}
theorem cov_split : CovT C (fun x xs H Q => ∃ a b, x = .str a ∧ xs = [.str b] ∧ (b.length == 0) = false ∧ a.length + 2 ≤ sizeLine ∧ rNewStrs (Txt.split a b) H Q) tSplit := by
  intro H L μ h y a e n Q hr ry hf want
  unfold tSplit at hf
  split at hf
  · rename_i b
    split at hf
    · rename_i hb
      cases hf
      refine ⟨a, b, rfl, by rw [show y = V.str b from ry], hb.1, small6 hb.2, fun p hp => ?_⟩
      exact want.lst (strs_repL _) hp
    · cases hf
  · cases hf
theorem cov_join : CovT C (fun x xs H Q => ∃ a p, ∃ ys : List Str, x = .str a ∧ xs = [.ref p] ∧ (SqL C.K H p (ys.map V.str) ∨ SqT C.K H p (ys.map V.str)) ∧ (ys.map (·.length)).sum + ys.length * a.length ≤ 16777216 ∧ Q (.str (Txt.join a ys)) H) tJoin := by
  intro H L μ h y a e n Q hr ry hf want
  unfold tJoin at hf
  cases es : seqD h e with
  | none => rw [es] at hf; cases hf
  | some ds =>
    rw [es] at hf
    dsimp only at hf
    cases ey : strsD ds with
    | none => rw [ey] at hf; cases hf
    | some ys =>
      rw [ey] at hf
      dsimp only at hf
      split at hf
      · rename_i hl
        cases hf
        obtain ⟨p, vs, rfl, q, rl⟩ := seqD_ok hr ry es
        rw [strsD_rep ey rl] at q
        exact ⟨a, p, ys, rfl, rfl, q, hl, want.old rfl⟩
      · cases hf
end
section
variable {X : Cx} {W : WX} {o e : Expr} {mo me : M D} {apos pos : Pos}
theorem e_split (ho : PE X o (rd X W mo)) (he : PE X e (rd X W me)) (h1 : starEach [e] X.env = [(false, eval e X.env)] := by rfl) (h2 : attributeBase o "split" X.env (eval o X.env) = eval o X.env := by rfl) (h3 : (apos.endLine == pos.line) = true := by rfl) :
    PE X (.Call (.Attribute o "split" apos) [e] [] pos) (rd X W (mM1 tSplit mo me)) := pe_imp (pe_split ho he h1 h2 h3) fun _ _ _ q => rd_m1 cov_split q
theorem e_join (ho : PE X o (rd X W mo)) (he : PE X e (rd X W me)) (h1 : starEach [e] X.env = [(false, eval e X.env)] := by rfl) (h2 : attributeBase o "join" X.env (eval o X.env) = eval o X.env := by rfl) (h3 : (apos.endLine == pos.line) = true := by rfl) :
    PE X (.Call (.Attribute o "join" apos) [e] [] pos) (rd X W (mM1 tJoin mo me)) := pe_imp (pe_join ho he h1 h2 h3) fun _ _ _ q => rd_m1 cov_join q
end
end Rh

set_option Elab.async false
set_option linter.all false
set_option maxRecDepth 100000
set_option maxHeartbeats 2000000
set_option autoImplicit false
/-! Truth of texts, dicts of texts to bools, replace. -/
namespace Rh
open PySem PySem.Spec PyProof.Rows L2
variable [Tbs]
/-! ### dicts of the module's top: texts to bools -/
structure DctB (K : PySem.W.Frag) (w : World) (mg : Str → Option Value) (x : Str) (kvs : List (Str × Bool)) : Prop where
  ex : ∃ a es n, mg x = some (.ref a) ∧ L2.KDict K w a es n ∧ Paired (fun (p : Str × Bool) (e : DictEntry) => (∃ t, e.key = .str p.1 t) ∧ e.val = .bool p.2) kvs es.toList
def lkB (z : Str) : List (Str × Bool) → Option Bool
  | [] => none
  | p :: r => match p.1 == z with
    | true => some p.2
    | false => lkB z r
theorem find_kvB {z : Str} : ∀ {kvs : List (Str × Bool)} {es : List DictEntry}, Paired (fun (p : Str × Bool) (e : DictEntry) => (∃ t, e.key = .str p.1 t) ∧ e.val = .bool p.2) kvs es →
    (es.any (·.refKey) = false) ∧ match lkB z kvs with
      | some i => ∃ e, es.find? (·.key.isStr z) = some e ∧ e.val = .bool i
      | none => es.find? (·.key.isStr z) = none
  | _, _, .nil => ⟨rfl, rfl⟩
  | p :: kvs, e :: es, .cons ⟨⟨t, ek⟩, ev⟩ r => by
    obtain ⟨h1, h2⟩ := find_kvB (z := z) r
    have er : e.refKey = false := by unfold DictEntry.refKey; rw [ek]
    have es' : e.key.isStr z = (p.1 == z) := by rw [ek]; rfl
    refine ⟨by rw [List.any_cons, er, h1]; rfl, ?_⟩
    unfold lkB
    rw [List.find?_cons, es']
    cases p.1 == z with
    | true => exact ⟨e, rfl, ev⟩
    | false => exact h2
theorem nsIn_kvB {K : PySem.W.Frag} {w : World} {a : Addr} {es : Array DictEntry} {n : Nat} {kvs : List (Str × Bool)} {z : Str} (D : L2.KDict K w a es n) (p : Paired (fun (p : Str × Bool) (e : DictEntry) => (∃ t, e.key = .str p.1 t) ∧ e.val = .bool p.2) kvs es.toList) :
    match lkB z kvs with
      | some i => PySem.W.nsIn K a z = some (some (.bool i))
      | none => PySem.W.nsIn K a z = some none := by
  obtain ⟨h1, h2⟩ := find_kvB (z := z) p
  unfold PySem.W.nsIn
  rw [D.at_]
  dsimp only
  cases e : lkB z kvs with
  | none =>
    rw [e] at h2
    dsimp only at h2 ⊢
    rw [h2]
    dsimp only
    rw [h1]; rfl
  | some i =>
    rw [e] at h2
    dsimp only at h2 ⊢
    obtain ⟨en, e1, e2⟩ := h2
    rw [e1]
    dsimp only
    rw [e2]
def dInB (x : Str) (kvs : List (Str × Bool)) (neg : Bool) (_ : Hs) (d e : D) : Option Nv := match d, e with
  | .str z, .gl y => match y == x with
    | true => some (.v (.bl (match neg with | true => !(lkB z kvs).isSome | false => (lkB z kvs).isSome)))
    | false => none
  | _, _ => none
def dIxB (x : Str) (kvs : List (Str × Bool)) (_ : Hs) (d e : D) : Option Nv := match d, e with
  | .gl y, .str z => match y == x with
    | true => (lkB z kvs).map fun i => .v (.bl i)
    | false => none
  | _, _ => none
section
variable {X : Cx} {x : Str} {kvs : List (Str × Bool)}
theorem gl_atB {C : Ct} {μ : Mu} {H : Hp} {y : Str} {v : V} {a : Addr} (r : RepV C μ H (.gl y) v) (e : (y == x) = true) (hm : C.mg x = some (.ref a)) : v = .ref a := by
  obtain ⟨b, rfl, hb⟩ := r
  rw [eq_of_beq e, hm] at hb
  cases hb; rfl
theorem w_inB (T : DctB X.K X.w X.mg x kvs) : CmpW X .In (dInB x kvs false) := by
  obtain ⟨a, es, n, hm, D, p⟩ := T.ex
  refine ⟨_, op_in_kd D, fun {H L μ h x' y d e nv Q} hr r1 r2 hf want => ?_⟩
  unfold dInB at hf
  split at hf
  · rename_i z y'
    split at hf
    · rename_i e1
      cases hf
      cases (show x' = V.str z from r1)
      have g := nsIn_kvB (z := z) D p
      cases e : lkB z kvs with
      | none =>
        rw [e] at g want
        exact ⟨z, none, rfl, gl_atB r2 e1 hm, g, want.old rfl⟩
      | some i =>
        rw [e] at g want
        exact ⟨z, _, rfl, gl_atB r2 e1 hm, g, want.old rfl⟩
    · cases hf
  · cases hf
theorem ix_B (T : DctB X.K X.w X.mg x kvs) {W : WX} {a b : Expr} {ma mb : M D} {pos : Pos} (ha : PE X a (rd X W ma)) (hb : PE X b (rd X W mb)) (hs : PlainIx b := by exact fun _ _ => rfl) : PE X (.Subscript a b pos) (rd X W (mOp2 (dIxB x kvs) ma mb)) := by
  obtain ⟨a, es, n, hm, D, p⟩ := T.ex
  refine e_ix ix_kdict (fun {H L μ h x' y d e nv Q} hr r1 r2 hf want => ?_) ha hb hs
  unfold dIxB at hf
  split at hf
  · rename_i y' z
    split at hf
    · rename_i e1
      obtain ⟨i, e2, e3⟩ := Option.map_eq_some_iff.mp hf
      cases e3
      cases (show y = V.str z from r2)
      have g := nsIn_kvB (z := z) D p
      rw [e2] at g
      exact ⟨a, z, .bl i, gl_atB r1 e1 hm, rfl, ⟨es, n, _, D.at_, D.lit, g, rfl⟩, want.old rfl⟩
    · cases hf
  · cases hf
/-- the name of such a dict -/
theorem e_globB {W : WX} {pos : Pos} (hg : Gl X x) (T : DctB X.K X.w X.mg x kvs) (hd : (x == ("__debug__" : Str)) = false := by decide) : PE X (.Name x pos) (rd X W (mCon (.gl x))) := by
  obtain ⟨a, es, n, hm, _⟩ := T.ex
  exact e_globF hg hm hd
end
/-! ### truth -/
def truthS (h : Hs) (d : D) : Option Bool := match d with
  | .str z => if z.length ≤ 1000000 then some ((z.length : Int) != 0) else none
  | d => truthD h d
def mTruthS (m : M D) : M Bool := mBind m fun d => fun _ h => match truthS h d with
  | some k => some (.ok k h)
  | none => none
section
variable {X : Cx} {W : WX} {σ : L2.St} {H : Hp}
theorem truthS_ok {C : Ct} {L : List Nat} {μ : Mu} {h : Hs} (hr : HR C L μ H h) {d : D} {x : V} {k : Bool} (q : RepV C μ H d x) (e : truthS h d = some k) : TruV C.K x H k := by
  cases d with
  | str z =>
    unfold truthS at e
    dsimp only at e
    split at e
    · rename_i hl
      cases e
      rw [show x = V.str z from q]
      exact ⟨small6 hl, rfl⟩
    · cases e
  | _ => exact truthD_ok hr q e
theorem t_valS {e : Expr} {m : M D} (ha : PE X e (rd X W m)) (he : ∀ whole, PySem.isTrue e X.env whole = (do let v ← whole; standAt e.pos; holding [v] (truthy v)) := by intro _; rfl) : PT X e (rdT X W (mTruthS m)) := by
  refine ⟨fun pins s σ H Q I q => (pt_truth ha he).run pins s σ H Q I ?_⟩
  refine rdG_imp (rdG_bind q) fun ρ L d h1 μ1 H1 ⟨rel1, q1⟩ x rx => ?_
  cases e1 : truthS h1 d with
  | none => rw [e1] at q1; exact q1.none
  | some k =>
    rw [e1] at q1
    exact ⟨k, truthS_ok rel1.hr rx e1, q1 μ1 H1 .refl rel1.hr⟩
/-! ### o.replace('..', '..'), behind a token -/
def dRepl (y z : Str) (_ : Hs) (d : D) : Option Nv := match d with
  | .str x => if x.length + (x.length + 1) * z.length ≤ 16777216 then some (.v (.str (Txt.replace x y z))) else none
  | _ => none
theorem eT_repl {o : Expr} {mo : M D} {y z : Str} {j k : Nat} {c0 c1 apos pos : Pos} (ho : PE X o (rd X W mo)) (hyz : (y == z) = false := by decide)
    (h1 : starEach [.Constant (.str y) j c0, .Constant (.str z) k c1] X.env = [(false, eval (.Constant (.str y) j c0) X.env), (false, eval (.Constant (.str z) k c1) X.env)] := by rfl)
    (h2 : attributeBase o "replace" X.env (eval o X.env) = eval o X.env := by rfl) (h3 : (apos.endLine == pos.line) = true := by rfl) : PET X (.Call (.Attribute o "replace" apos) [.Constant (.str y) j c0, .Constant (.str z) k c1] [] pos) (rd X W (mOp1 (dRepl y z) mo)) := by
  intro pins s σ H Q h0 I q
  refine CwR.pet_replC ho hyz h1 h2 h3 pins s σ H Q h0 I (rdG_imp (rdG_bind q) fun ρ L d h1 μ1 H1 ⟨rel1, q1⟩ x rx => ?_)
  obtain ⟨n, en, want⟩ := Sat.lift rel1.hr q1
  cases d with
  | str x' =>
    unfold dRepl at en
    dsimp only at en
    split at en
    · rename_i hl
      cases en
      exact ⟨x', rx, hl, want.old rfl⟩
    · cases en
  | _ => cases en
theorem eT_add {a b : Expr} {ma mb : M D} {pos : Pos} (ha : PE X a (rd X W ma)) (hb : PET X b (rd X W mb)) : PET X (.BinOp a .Add b pos) (rd X W (mOp2 dAddS ma mb)) := by
  intro pins s σ H Q h0 I q
  exact CwR.pet_op (OpR.or' op_add_str (OpR.or' op_add (OpR.or' op_catF op_cat))) (CwR.PET.of ha) hb pins s σ H Q h0 I (rd_op2 (cov_catS.or ((cov_rI0 fun _ _ => rfl).or (cov_catT.or cov_catL))) q)
/-- a number, then what wants a token -/
theorem a_intT {i : Int} {j : Nat} {cp : Pos} {e : Expr} {m : M D} (he : PET X e (rd X W m)) (hs : starEach [.Constant (.int i) j cp, e] X.env = [(false, eval (.Constant (.int i) j cp) X.env), (false, eval e X.env)] := by rfl) :
    PA X [.Constant (.int i) j cp, e] (rdA X W (mCons (mCon (.int i)) (mCons m mNil))) := by
  refine ⟨fun pos pins s σ H Q I q => ?_⟩
  rw [hs]
  obtain ⟨ρ, L, μ, h, rel, q⟩ := q
  refine Calls.spliced_cons (wpAny_Constant_int (k := j) (pos := cp) (Calls.spliced_cons (thn (he pins { s with toks := s.toks + 1 } σ H (fun v H1 => Q [.int i, v] H1) (Nat.le_add_left 1 s.toks) (I.tok _) ⟨ρ, L, μ, h, rel, ?_⟩) fun v s1 ⟨x, H1, I1, r1, q1⟩ => Calls.spliced_nil ⟨[.int i, x], H1, I1, .cons ⟨_, rfl⟩ (.cons r1 .nil), q1⟩)))
  unfold mCons mNil mCon mBind mPure at q
  dsimp only at q
  cases em : m ρ h with
  | none => rw [em] at q; exact q.none
  | some r =>
    rw [em] at q
    cases r with
    | ex cc fs h2 => exact q
    | ok d h2 => exact fun μ' H' g r x rx => q μ' H' g r [.int i, x] ⟨_, _, rfl, rfl, _, _, rfl, rx, rfl⟩
end
end Rh

set_option Elab.async false
set_option linter.all false
set_option maxRecDepth 100000
set_option maxHeartbeats 2000000
set_option autoImplicit false
namespace Rh
open PySem PySem.Spec PyProof.Rows L2
theorem dctB_of {K : PySem.W.Frag} {w : World} {mg : Str → Option Value} {x : Str} {kvs : List (Str × Bool)} (hm : mg x = some (.ref (He.ga K x))) (T : ∃ es n, L2.KDict K w (He.ga K x) es n) (b : Hf.dctBB K (He.ga K x) kvs = true) : DctB K w mg x kvs := by
  obtain ⟨es, n, D⟩ := T
  refine ⟨⟨_, es, n, hm, D, ?_⟩⟩
  unfold Hf.dctBB at b
  rw [D.at_] at b
  exact Hf.pairBB_ok b
end Rh

set_option Elab.async false
set_option linter.all false
set_option maxRecDepth 100000
set_option maxHeartbeats 4000000
set_option autoImplicit false
namespace Gn
open PySem PySem.Spec PyProof.Rows L2 Rh
variable [Tbs]

theorem bt_ValueError : bootBuiltins (PySem.Str.ofString "ValueError") = some (.type "ValueError") := by first | rfl | decide +kernel | with_unfolding_all rfl
theorem bt_list : bootBuiltins (PySem.Str.ofString "list") = some (.type "list") := by first | rfl | decide +kernel | with_unfolding_all rfl
theorem bt_tuple : bootBuiltins (PySem.Str.ofString "tuple") = some (.type "tuple") := by first | rfl | decide +kernel | with_unfolding_all rfl
theorem bt_int : bootBuiltins (PySem.Str.ofString "int") = some (.type "int") := by first | rfl | decide +kernel | with_unfolding_all rfl
theorem bt_bool : bootBuiltins (PySem.Str.ofString "bool") = some (.type "bool") := by first | rfl | decide +kernel | with_unfolding_all rfl
theorem bt_str : bootBuiltins (PySem.Str.ofString "str") = some (.type "str") := by first | rfl | decide +kernel | with_unfolding_all rfl
theorem bt_abs : bootBuiltins (PySem.Str.ofString "abs") = some (.builtin "abs") := by first | rfl | decide +kernel | with_unfolding_all rfl
theorem bt_all : bootBuiltins (PySem.Str.ofString "all") = some (.builtin "all") := by first | rfl | decide +kernel | with_unfolding_all rfl
theorem bt_isi : bootBuiltins (PySem.Str.ofString "isinstance") = some (.builtin "isinstance") := by first | rfl | decide +kernel | with_unfolding_all rfl
def top (i : Nat) : Stmt := PySem.Challenge.pw_bothroads_k34_texts_by_hand_and_refused.main.body.getD i (.Pass ⟨0, 0, 0, 0⟩)
def mthd (i j : Nat) : Stmt := match top i with
  | .ClassDef (body := b) .. => b.getD j (.Pass ⟨0, 0, 0, 0⟩)
  | _ => .Pass ⟨0, 0, 0, 0⟩
def kvs_ANSWERS : List (Str × Bool) := [("yes", true), ("no", false)]
/-- what the top has left -/
structure Txt (P : Program) (w : World) (K : PySem.W.Frag) (mg : Str → Option Value) (a_is_number : Addr) (a_are_numbers_from : Addr) (a_are_places : Addr) (a_is_set_of_places : Addr) (a_are_steps : Addr) (a_is_machine : Addr) (a_letters_in : Addr) (a_is_event : Addr) (a_is_run : Addr) (a_are_rows : Addr) (a_is_step : Addr) (a_are_puts : Addr) (a_are_takes : Addr) (a_is_keeper : Addr) (a_letters_of : Addr) (a_marks_of : Addr) (a_greatest_mark : Addr) (a_is_pair : Addr) (a_lines_of : Addr) (a_is_figures : Addr) (a_Reader___init__ : Addr) (a_Reader_is_done : Addr) (a_Reader_comes : Addr) (a_Reader_check : Addr) (a_Reader_behind : Addr) (a_Reader_counted : Addr) (a_Reader_counted_just : Addr) (a_Reader_end : Addr) (a_line_with : Addr) (a_machine_text : Addr) (a_run_text : Addr) (a_keeper_text : Addr) (a_pair_text : Addr) (a_machine_read : Addr) (a_event_read : Addr) (a_run_read : Addr) (a_keeper_lines_read : Addr) (a_keeper_read : Addr) (a_pair_read : Addr) (a__law_box : Addr) (a__law_take : Addr) (a__law_cells : Addr) (a__law_lists : Addr) (a__law_same : Addr) (a__law_even : Addr) (a__law_flip : Addr) (a__law_lead : Addr) (a__law_hear : Addr) (a__law_heard : Addr) (a__law_flip_text : Addr) (a__law_two_text : Addr) (a__law_always_right : Addr) (a__law_told_right : Addr) (a__law_lines_right : Addr) (a__law_unfit_right : Addr) (a_law : Addr) (a_BadLine : Addr) (a_Unfit : Addr) (a_Reader : Addr) : Prop where
  g_is_number : mg (PySem.Str.ofString "is_number") = some (.ref a_is_number)
  k_is_number : PySem.W.keepIn K (.ref a_is_number) = true
  g_are_numbers_from : mg (PySem.Str.ofString "are_numbers_from") = some (.ref a_are_numbers_from)
  k_are_numbers_from : PySem.W.keepIn K (.ref a_are_numbers_from) = true
  g_are_places : mg (PySem.Str.ofString "are_places") = some (.ref a_are_places)
  k_are_places : PySem.W.keepIn K (.ref a_are_places) = true
  g_is_set_of_places : mg (PySem.Str.ofString "is_set_of_places") = some (.ref a_is_set_of_places)
  k_is_set_of_places : PySem.W.keepIn K (.ref a_is_set_of_places) = true
  g_are_steps : mg (PySem.Str.ofString "are_steps") = some (.ref a_are_steps)
  k_are_steps : PySem.W.keepIn K (.ref a_are_steps) = true
  g_is_machine : mg (PySem.Str.ofString "is_machine") = some (.ref a_is_machine)
  k_is_machine : PySem.W.keepIn K (.ref a_is_machine) = true
  g_letters_in : mg (PySem.Str.ofString "letters_in") = some (.ref a_letters_in)
  k_letters_in : PySem.W.keepIn K (.ref a_letters_in) = true
  g_is_event : mg (PySem.Str.ofString "is_event") = some (.ref a_is_event)
  k_is_event : PySem.W.keepIn K (.ref a_is_event) = true
  g_is_run : mg (PySem.Str.ofString "is_run") = some (.ref a_is_run)
  k_is_run : PySem.W.keepIn K (.ref a_is_run) = true
  g_are_rows : mg (PySem.Str.ofString "are_rows") = some (.ref a_are_rows)
  k_are_rows : PySem.W.keepIn K (.ref a_are_rows) = true
  g_is_step : mg (PySem.Str.ofString "is_step") = some (.ref a_is_step)
  k_is_step : PySem.W.keepIn K (.ref a_is_step) = true
  g_are_puts : mg (PySem.Str.ofString "are_puts") = some (.ref a_are_puts)
  k_are_puts : PySem.W.keepIn K (.ref a_are_puts) = true
  g_are_takes : mg (PySem.Str.ofString "are_takes") = some (.ref a_are_takes)
  k_are_takes : PySem.W.keepIn K (.ref a_are_takes) = true
  g_is_keeper : mg (PySem.Str.ofString "is_keeper") = some (.ref a_is_keeper)
  k_is_keeper : PySem.W.keepIn K (.ref a_is_keeper) = true
  g_letters_of : mg (PySem.Str.ofString "letters_of") = some (.ref a_letters_of)
  k_letters_of : PySem.W.keepIn K (.ref a_letters_of) = true
  g_marks_of : mg (PySem.Str.ofString "marks_of") = some (.ref a_marks_of)
  k_marks_of : PySem.W.keepIn K (.ref a_marks_of) = true
  g_greatest_mark : mg (PySem.Str.ofString "greatest_mark") = some (.ref a_greatest_mark)
  k_greatest_mark : PySem.W.keepIn K (.ref a_greatest_mark) = true
  g_is_pair : mg (PySem.Str.ofString "is_pair") = some (.ref a_is_pair)
  k_is_pair : PySem.W.keepIn K (.ref a_is_pair) = true
  g_lines_of : mg (PySem.Str.ofString "lines_of") = some (.ref a_lines_of)
  k_lines_of : PySem.W.keepIn K (.ref a_lines_of) = true
  g_is_figures : mg (PySem.Str.ofString "is_figures") = some (.ref a_is_figures)
  k_is_figures : PySem.W.keepIn K (.ref a_is_figures) = true
  gm_Reader___init__ : Meth K a_Reader (PySem.Str.ofString "__init__") a_Reader___init__
  gm_Reader_is_done : Meth K a_Reader (PySem.Str.ofString "is_done") a_Reader_is_done
  gm_Reader_comes : Meth K a_Reader (PySem.Str.ofString "comes") a_Reader_comes
  gm_Reader_check : Meth K a_Reader (PySem.Str.ofString "check") a_Reader_check
  gm_Reader_behind : Meth K a_Reader (PySem.Str.ofString "behind") a_Reader_behind
  gm_Reader_counted : Meth K a_Reader (PySem.Str.ofString "counted") a_Reader_counted
  gm_Reader_counted_just : Meth K a_Reader (PySem.Str.ofString "counted_just") a_Reader_counted_just
  gm_Reader_end : Meth K a_Reader (PySem.Str.ofString "end") a_Reader_end
  g_line_with : mg (PySem.Str.ofString "line_with") = some (.ref a_line_with)
  k_line_with : PySem.W.keepIn K (.ref a_line_with) = true
  g_machine_text : mg (PySem.Str.ofString "machine_text") = some (.ref a_machine_text)
  k_machine_text : PySem.W.keepIn K (.ref a_machine_text) = true
  g_run_text : mg (PySem.Str.ofString "run_text") = some (.ref a_run_text)
  k_run_text : PySem.W.keepIn K (.ref a_run_text) = true
  g_keeper_text : mg (PySem.Str.ofString "keeper_text") = some (.ref a_keeper_text)
  k_keeper_text : PySem.W.keepIn K (.ref a_keeper_text) = true
  g_pair_text : mg (PySem.Str.ofString "pair_text") = some (.ref a_pair_text)
  k_pair_text : PySem.W.keepIn K (.ref a_pair_text) = true
  g_machine_read : mg (PySem.Str.ofString "machine_read") = some (.ref a_machine_read)
  k_machine_read : PySem.W.keepIn K (.ref a_machine_read) = true
  g_event_read : mg (PySem.Str.ofString "event_read") = some (.ref a_event_read)
  k_event_read : PySem.W.keepIn K (.ref a_event_read) = true
  g_run_read : mg (PySem.Str.ofString "run_read") = some (.ref a_run_read)
  k_run_read : PySem.W.keepIn K (.ref a_run_read) = true
  g_keeper_lines_read : mg (PySem.Str.ofString "keeper_lines_read") = some (.ref a_keeper_lines_read)
  k_keeper_lines_read : PySem.W.keepIn K (.ref a_keeper_lines_read) = true
  g_keeper_read : mg (PySem.Str.ofString "keeper_read") = some (.ref a_keeper_read)
  k_keeper_read : PySem.W.keepIn K (.ref a_keeper_read) = true
  g_pair_read : mg (PySem.Str.ofString "pair_read") = some (.ref a_pair_read)
  k_pair_read : PySem.W.keepIn K (.ref a_pair_read) = true
  g__law_box : mg (PySem.Str.ofString "_law_box") = some (.ref a__law_box)
  k__law_box : PySem.W.keepIn K (.ref a__law_box) = true
  g__law_take : mg (PySem.Str.ofString "_law_take") = some (.ref a__law_take)
  k__law_take : PySem.W.keepIn K (.ref a__law_take) = true
  g__law_cells : mg (PySem.Str.ofString "_law_cells") = some (.ref a__law_cells)
  k__law_cells : PySem.W.keepIn K (.ref a__law_cells) = true
  g__law_lists : mg (PySem.Str.ofString "_law_lists") = some (.ref a__law_lists)
  k__law_lists : PySem.W.keepIn K (.ref a__law_lists) = true
  g__law_same : mg (PySem.Str.ofString "_law_same") = some (.ref a__law_same)
  k__law_same : PySem.W.keepIn K (.ref a__law_same) = true
  g__law_even : mg (PySem.Str.ofString "_law_even") = some (.ref a__law_even)
  k__law_even : PySem.W.keepIn K (.ref a__law_even) = true
  g__law_flip : mg (PySem.Str.ofString "_law_flip") = some (.ref a__law_flip)
  k__law_flip : PySem.W.keepIn K (.ref a__law_flip) = true
  g__law_lead : mg (PySem.Str.ofString "_law_lead") = some (.ref a__law_lead)
  k__law_lead : PySem.W.keepIn K (.ref a__law_lead) = true
  g__law_hear : mg (PySem.Str.ofString "_law_hear") = some (.ref a__law_hear)
  k__law_hear : PySem.W.keepIn K (.ref a__law_hear) = true
  g__law_heard : mg (PySem.Str.ofString "_law_heard") = some (.ref a__law_heard)
  k__law_heard : PySem.W.keepIn K (.ref a__law_heard) = true
  g__law_flip_text : mg (PySem.Str.ofString "_law_flip_text") = some (.ref a__law_flip_text)
  k__law_flip_text : PySem.W.keepIn K (.ref a__law_flip_text) = true
  g__law_two_text : mg (PySem.Str.ofString "_law_two_text") = some (.ref a__law_two_text)
  k__law_two_text : PySem.W.keepIn K (.ref a__law_two_text) = true
  g__law_always_right : mg (PySem.Str.ofString "_law_always_right") = some (.ref a__law_always_right)
  k__law_always_right : PySem.W.keepIn K (.ref a__law_always_right) = true
  g__law_told_right : mg (PySem.Str.ofString "_law_told_right") = some (.ref a__law_told_right)
  k__law_told_right : PySem.W.keepIn K (.ref a__law_told_right) = true
  g__law_lines_right : mg (PySem.Str.ofString "_law_lines_right") = some (.ref a__law_lines_right)
  k__law_lines_right : PySem.W.keepIn K (.ref a__law_lines_right) = true
  g__law_unfit_right : mg (PySem.Str.ofString "_law_unfit_right") = some (.ref a__law_unfit_right)
  k__law_unfit_right : PySem.W.keepIn K (.ref a__law_unfit_right) = true
  g_law : mg (PySem.Str.ofString "law") = some (.ref a_law)
  k_law : PySem.W.keepIn K (.ref a_law) = true
  g_Reader : mg (PySem.Str.ofString "Reader") = some (.ref a_Reader)
  cl_Reader : Cls K a_Reader
  mki_Reader : Mk K a_Reader a_Reader___init__
  af_lines : AtK K mg [(PySem.Str.ofString "Reader")] (PySem.Str.ofString "lines")
  af_place : AtK K mg [(PySem.Str.ofString "Reader")] (PySem.Str.ofString "place")
  n_ValueError : mg (PySem.Str.ofString "ValueError") = none
  n_abs : mg (PySem.Str.ofString "abs") = none
  n_all : mg (PySem.Str.ofString "all") = none
  n_bool : mg (PySem.Str.ofString "bool") = none
  n_enumerate : mg (PySem.Str.ofString "enumerate") = none
  n_int : mg (PySem.Str.ofString "int") = none
  n_isinstance : mg (PySem.Str.ofString "isinstance") = none
  n_len : mg (PySem.Str.ofString "len") = none
  n_list : mg (PySem.Str.ofString "list") = none
  n_max : mg (PySem.Str.ofString "max") = none
  n_range : mg (PySem.Str.ofString "range") = none
  n_str : mg (PySem.Str.ofString "str") = none
  n_tuple : mg (PySem.Str.ofString "tuple") = none
  n_zip : mg (PySem.Str.ofString "zip") = none
  g_BadLine : mg (PySem.Str.ofString "BadLine") = some (.ref a_BadLine)
  k_BadLine : PySem.W.keepIn K (.ref a_BadLine) = true
  b_BadLine : PySem.W.subIn K (.ref a_BadLine) (.type "BaseException") = some true
  t_BadLine : PySem.W.typeIn K (.ref a_BadLine) = some (.type "type")
  m_BadLine : Mkr P w K a_BadLine (PySem.Str.ofString "line")
  at_BadLine : AttrX K a_BadLine (PySem.Str.ofString "line")
  g_Unfit : mg (PySem.Str.ofString "Unfit") = some (.ref a_Unfit)
  k_Unfit : PySem.W.keepIn K (.ref a_Unfit) = true
  b_Unfit : PySem.W.subIn K (.ref a_Unfit) (.type "BaseException") = some true
  t_Unfit : PySem.W.typeIn K (.ref a_Unfit) = some (.type "type")
  x_Unfit : PySem.W.excIn K a_Unfit [.type "ValueError", .type "Exception", .type "BaseException", .type "object"] "ValueError.__new__" = true
  ie_BadLine : L2.ExcC K a_BadLine
  ie_Unfit : L2.ExcC K a_Unfit
  iv_BadLine_ValueError : PySem.W.kitOne K (.ref a_BadLine) (.type "ValueError") = some true
  iv_Unfit_ValueError : PySem.W.kitOne K (.ref a_Unfit) (.type "ValueError") = some true
  c_ANSWERS : DctB K w mg (PySem.Str.ofString "ANSWERS") kvs_ANSWERS
  ek : ExK K mg [(PySem.Str.ofString "BadLine"), (PySem.Str.ofString "Unfit")]
abbrev st_is_number : Stmt := top 4
abbrev N_is_number : List Str := [(PySem.Str.ofString "thing")]
abbrev ps_is_number : List Str := [(PySem.Str.ofString "thing")]
def m_is_number : MS := (mSeq (mRet (mAndV (mOpA dIsi (mCons (mVar 0) (mCons (mCon (.ty .int)) mNil))) (mNotV (mOpA dIsi (mCons (mVar 0) (mCons (mCon (.ty .bool)) mNil))))))
    mNx)
def f_is_number : FM := runDef N_is_number.length m_is_number
theorem sc_is_number : FnScope N_is_number ps_is_number (defScope st_is_number) := ⟨rfl, rfl, rfl, by decide +kernel, rfl, by decide +kernel, by decide +kernel⟩
abbrev st_are_numbers_from : Stmt := top 5
abbrev N_are_numbers_from : List Str := [(PySem.Str.ofString "thing"), (PySem.Str.ofString "low"), (PySem.Str.ofString "own")]
abbrev ps_are_numbers_from : List Str := [(PySem.Str.ofString "thing"), (PySem.Str.ofString "low")]
def m_are_numbers_from : MS := (mSeq (mRet (mAndV (mOpA dIsi (mCons (mVar 0) (mCons (mCon (.ty .tuple)) mNil))) (mOpA dAll (mCons (mLc (mIter (mVar 0)) (tName 2) (mPure true) (mAndV (mCall f_is_number (mCons (mVar 2) mNil)) (mOp2 dGe (mVar 2) (mVar 1))) [2]) mNil))))
    mNx)
def f_are_numbers_from : FM := runDef N_are_numbers_from.length m_are_numbers_from
theorem sc_are_numbers_from : FnScope N_are_numbers_from ps_are_numbers_from (defScope st_are_numbers_from) := ⟨rfl, rfl, rfl, by decide +kernel, rfl, by decide +kernel, by decide +kernel⟩
abbrev st_are_places : Stmt := top 6
abbrev N_are_places : List Str := [(PySem.Str.ofString "thing"), (PySem.Str.ofString "many"), (PySem.Str.ofString "own")]
abbrev ps_are_places : List Str := [(PySem.Str.ofString "thing"), (PySem.Str.ofString "many")]
def m_are_places : MS := (mSeq (mRet (mAndV (mCall f_are_numbers_from (mCons (mVar 0) (mCons (mCon (.int 0)) mNil))) (mOpA dAll (mCons (mLc (mIter (mVar 0)) (tName 2) (mPure true) (mOp2 dLt (mVar 2) (mVar 1)) [2]) mNil))))
    mNx)
def f_are_places : FM := runDef N_are_places.length m_are_places
theorem sc_are_places : FnScope N_are_places ps_are_places (defScope st_are_places) := ⟨rfl, rfl, rfl, by decide +kernel, rfl, by decide +kernel, by decide +kernel⟩
abbrev st_is_set_of_places : Stmt := top 7
abbrev N_is_set_of_places : List Str := [(PySem.Str.ofString "thing"), (PySem.Str.ofString "many"), (PySem.Str.ofString "low"), (PySem.Str.ofString "high")]
abbrev ps_is_set_of_places : List Str := [(PySem.Str.ofString "thing"), (PySem.Str.ofString "many")]
def m_is_set_of_places : MS := (mSeq (mRet (mAndV (mCall f_are_places (mCons (mVar 0) (mCons (mVar 1) mNil))) (mOpA dAll (mCons (mLc (mZip (mCons (mVar 0) (mCons (mSl (mVar 0) (mPart (mCon (.int 1))) (mPure none)) mNil))) (tTup 2 (tsCons (tName 2) (tsCons (tName 3) tsNil))) (mPure true) (mOp2 dLt (mVar 2) (mVar 3)) [2, 3]) mNil))))
    mNx)
def f_is_set_of_places : FM := runDef N_is_set_of_places.length m_is_set_of_places
theorem sc_is_set_of_places : FnScope N_is_set_of_places ps_is_set_of_places (defScope st_is_set_of_places) := ⟨rfl, rfl, rfl, by decide +kernel, rfl, by decide +kernel, by decide +kernel⟩
abbrev st_are_steps : Stmt := top 10
abbrev N_are_steps : List Str := [(PySem.Str.ofString "thing"), (PySem.Str.ofString "row")]
abbrev ps_are_steps : List Str := [(PySem.Str.ofString "thing")]
def m_are_steps : MS := (mSeq (mIfS (mOr (mNot (mTruth (mOpA dIsi (mCons (mVar 0) (mCons (mCon (.ty .tuple)) mNil))))) (mB (mOp2 (dEqA false) (mOpA dLenA (mCons (mVar 0) mNil)) (mCon (.int 0))))) (mSeq (mRet (mCon (.bl false)))
    mNx) mNx)
    (mSeq (mIfS (mNot (mTruth (mOpA dAll (mCons (mLc (mIter (mVar 0)) (tName 1) (mPure true) (mCall f_are_places (mCons (mVar 1) (mCons (mOpA dLenA (mCons (mVar 0) mNil)) mNil))) [1]) mNil)))) (mSeq (mRet (mCon (.bl false)))
    mNx) mNx)
    (mSeq (mRet (mAndV (mOp2 dGt (mOpA dLenA (mCons (mOp2 dIx (mVar 0) (mCon (.int 0))) mNil)) (mCon (.int 0))) (mOpA dAll (mCons (mLc (mIter (mVar 0)) (tName 1) (mPure true) (mOp2 (dEqA false) (mOpA dLenA (mCons (mVar 1) mNil)) (mOpA dLenA (mCons (mOp2 dIx (mVar 0) (mCon (.int 0))) mNil))) [1]) mNil))))
    mNx)))
def f_are_steps : FM := runDef N_are_steps.length m_are_steps
theorem sc_are_steps : FnScope N_are_steps ps_are_steps (defScope st_are_steps) := ⟨rfl, rfl, rfl, by decide +kernel, rfl, by decide +kernel, by decide +kernel⟩
abbrev st_is_machine : Stmt := top 9
abbrev N_is_machine : List Str := [(PySem.Str.ofString "thing"), (PySem.Str.ofString "steps"), (PySem.Str.ofString "ends")]
abbrev ps_is_machine : List Str := [(PySem.Str.ofString "thing")]
def m_is_machine : MS := (mSeq (mIfS (mOr (mNot (mTruth (mOpA dIsi (mCons (mVar 0) (mCons (mCon (.ty .tuple)) mNil))))) (mB (mOp2 (dEqA true) (mOpA dLenA (mCons (mVar 0) mNil)) (mCon (.int 2))))) (mSeq (mRet (mCon (.bl false)))
    mNx) mNx)
    (mSeq (mAsg (tTup 2 (tsCons (tName 1) (tsCons (tName 2) tsNil))) (mVar 0))
    (mSeq (mRet (mAndV (mCall f_are_steps (mCons (mVar 1) mNil)) (mCall f_is_set_of_places (mCons (mVar 2) (mCons (mOpA dLenA (mCons (mVar 1) mNil)) mNil)))))
    mNx)))
def f_is_machine : FM := runDef N_is_machine.length m_is_machine
theorem sc_is_machine : FnScope N_is_machine ps_is_machine (defScope st_is_machine) := ⟨rfl, rfl, rfl, by decide +kernel, rfl, by decide +kernel, by decide +kernel⟩
abbrev st_letters_in : Stmt := top 11
abbrev N_letters_in : List Str := [(PySem.Str.ofString "machine")]
abbrev ps_letters_in : List Str := [(PySem.Str.ofString "machine")]
def m_letters_in : MS := (mSeq (mRet (mOpA dLenA (mCons (mOp2 dIx (mOp2 dIx (mVar 0) (mCon (.int 0))) (mCon (.int 0))) mNil)))
    mNx)
def f_letters_in : FM := runDef N_letters_in.length m_letters_in
theorem sc_letters_in : FnScope N_letters_in ps_letters_in (defScope st_letters_in) := ⟨rfl, rfl, rfl, by decide +kernel, rfl, by decide +kernel, by decide +kernel⟩
abbrev st_is_event : Stmt := top 14
abbrev N_is_event : List Str := [(PySem.Str.ofString "thing")]
abbrev ps_is_event : List Str := [(PySem.Str.ofString "thing")]
def m_is_event : MS := (mSeq (mRet (mAndV (mCall f_are_numbers_from (mCons (mVar 0) (mCons (mCon (.int 0)) mNil))) (mAndV (mOp2 (dEqA false) (mOpA dLenA (mCons (mVar 0) mNil)) (mCon (.int 2))) (mOp2 dLt (mOp2 dIx (mVar 0) (mCon (.int 0))) (mCon (.int 2))))))
    mNx)
def f_is_event : FM := runDef N_is_event.length m_is_event
theorem sc_is_event : FnScope N_is_event ps_is_event (defScope st_is_event) := ⟨rfl, rfl, rfl, by decide +kernel, rfl, by decide +kernel, by decide +kernel⟩
abbrev st_is_run : Stmt := top 13
abbrev N_is_run : List Str := [(PySem.Str.ofString "thing"), (PySem.Str.ofString "on_road_to"), (PySem.Str.ofString "side"), (PySem.Str.ofString "letter"), (PySem.Str.ofString "own")]
abbrev ps_is_run : List Str := [(PySem.Str.ofString "thing")]
def m_is_run : MS := (mSeq (mIfS (mOr (mNot (mTruth (mOpA dIsi (mCons (mVar 0) (mCons (mCon (.ty .tuple)) mNil))))) (mNot (mTruth (mOpA dAll (mCons (mLc (mIter (mVar 0)) (tName 4) (mPure true) (mCall f_is_event (mCons (mVar 4) mNil)) [4]) mNil))))) (mSeq (mRet (mCon (.bl false)))
    mNx) mNx)
    (mSeq (mSet 1 (mLst (mCons (mCon (.int 0)) (mCons (mCon (.int 0)) mNil))))
    (mSeq (mFor (mIter (mVar 0)) (tTup 2 (tsCons (tName 2) (tsCons (tName 3) tsNil))) (mSeq (mIfS (mB (mOp2 dGt (mVar 3) (mCon (.int 0)))) (mSeq (mAugS (fun i j => i + j) (mVar 1) (mOp2 dSub (mCon (.int 1)) (mVar 2)) (mCon (.int 1)))
    mNx) (mSeq (mIfS (mB (mOp2 dGt (mOp2 dIx (mVar 1) (mVar 2)) (mCon (.int 0)))) (mSeq (mAugS (fun i j => i - j) (mVar 1) (mVar 2) (mCon (.int 1)))
    mNx) (mSeq (mRet (mCon (.bl false)))
    mNx))
    mNx))
    mNx))
    (mSeq (mRet (mCon (.bl true)))
    mNx))))
def f_is_run : FM := runDef N_is_run.length m_is_run
theorem sc_is_run : FnScope N_is_run ps_is_run (defScope st_is_run) := ⟨rfl, rfl, rfl, by decide +kernel, rfl, by decide +kernel, by decide +kernel⟩
abbrev st_are_rows : Stmt := top 17
abbrev N_are_rows : List Str := [(PySem.Str.ofString "thing"), (PySem.Str.ofString "many"), (PySem.Str.ofString "row")]
abbrev ps_are_rows : List Str := [(PySem.Str.ofString "thing"), (PySem.Str.ofString "many")]
def m_are_rows : MS := (mSeq (mIfS (mOr (mNot (mTruth (mOpA dIsi (mCons (mVar 0) (mCons (mCon (.ty .tuple)) mNil))))) (mB (mOp2 (dEqA true) (mOpA dLenA (mCons (mVar 0) mNil)) (mVar 1)))) (mSeq (mRet (mCon (.bl false)))
    mNx) mNx)
    (mSeq (mRet (mAndV (mOpA dAll (mCons (mLc (mIter (mVar 0)) (tName 2) (mPure true) (mAndV (mOpA dIsi (mCons (mVar 2) (mCons (mCon (.ty .tuple)) mNil))) (mOp2 dGt (mOpA dLenA (mCons (mVar 2) mNil)) (mCon (.int 0)))) [2]) mNil)) (mOp2 (dEqA false) (mLenSc (mSc (mIter (mVar 0)) (tName 2) (mPure true) (mOpA dLenA (mCons (mVar 2) mNil)) [2])) (mCon (.int 1)))))
    mNx))
def f_are_rows : FM := runDef N_are_rows.length m_are_rows
theorem sc_are_rows : FnScope N_are_rows ps_are_rows (defScope st_are_rows) := ⟨rfl, rfl, rfl, by decide +kernel, rfl, by decide +kernel, by decide +kernel⟩
abbrev st_is_step : Stmt := top 19
abbrev N_is_step : List Str := [(PySem.Str.ofString "thing"), (PySem.Str.ofString "stands")]
abbrev ps_is_step : List Str := [(PySem.Str.ofString "thing"), (PySem.Str.ofString "stands")]
def m_is_step : MS := (mSeq (mRet (mAndV (mCall f_are_numbers_from (mCons (mVar 0) (mCons (mCon (.int 0)) mNil))) (mAndV (mOp2 (dEqA false) (mOpA dLenA (mCons (mVar 0) mNil)) (mCon (.int 2))) (mOp2 dLt (mOp2 dIx (mVar 0) (mCon (.int 0))) (mVar 1)))))
    mNx)
def f_is_step : FM := runDef N_is_step.length m_is_step
theorem sc_is_step : FnScope N_is_step ps_is_step (defScope st_is_step) := ⟨rfl, rfl, rfl, by decide +kernel, rfl, by decide +kernel, by decide +kernel⟩
abbrev st_are_puts : Stmt := top 18
abbrev N_are_puts : List Str := [(PySem.Str.ofString "thing"), (PySem.Str.ofString "stands"), (PySem.Str.ofString "row"), (PySem.Str.ofString "step")]
abbrev ps_are_puts : List Str := [(PySem.Str.ofString "thing"), (PySem.Str.ofString "stands")]
def m_are_puts : MS := (mSeq (mRet (mAndV (mCall f_are_rows (mCons (mVar 0) (mCons (mVar 1) mNil))) (mOpA dAll (mCons (mLc2 (mIter (mVar 0)) (tName 2) (mPure true) (mIter (mVar 2)) (tName 3) (mPure true) (mCall f_is_step (mCons (mVar 3) (mCons (mVar 1) mNil))) [2, 3] [3]) mNil))))
    mNx)
def f_are_puts : FM := runDef N_are_puts.length m_are_puts
theorem sc_are_puts : FnScope N_are_puts ps_are_puts (defScope st_are_puts) := ⟨rfl, rfl, rfl, by decide +kernel, rfl, by decide +kernel, by decide +kernel⟩
abbrev st_are_takes : Stmt := top 20
abbrev N_are_takes : List Str := [(PySem.Str.ofString "thing"), (PySem.Str.ofString "stands"), (PySem.Str.ofString "told"), (PySem.Str.ofString "row"), (PySem.Str.ofString "own")]
abbrev ps_are_takes : List Str := [(PySem.Str.ofString "thing"), (PySem.Str.ofString "stands")]
def m_are_takes : MS := (mSeq (mIfS (mNot (mTruth (mCall f_are_rows (mCons (mVar 0) (mCons (mVar 1) mNil))))) (mSeq (mRet (mCon (.bl false)))
    mNx) mNx)
    (mSeq (mSet 2 (mOpA dTuple (mCons (mLc2 (mIter (mVar 0)) (tName 3) (mPure true) (mIter (mVar 3)) (tName 4) (mPure true) (mVar 4) [3, 4] [4]) mNil)))
    (mSeq (mRet (mAndV (mCall f_are_rows (mCons (mVar 2) (mCons (mOpA dLenA (mCons (mVar 2) mNil)) mNil))) (mOpA dAll (mCons (mLc (mIter (mVar 2)) (tName 4) (mPure true) (mCall f_are_places (mCons (mVar 4) (mCons (mVar 1) mNil))) [4]) mNil))))
    mNx)))
def f_are_takes : FM := runDef N_are_takes.length m_are_takes
theorem sc_are_takes : FnScope N_are_takes ps_are_takes (defScope st_are_takes) := ⟨rfl, rfl, rfl, by decide +kernel, rfl, by decide +kernel, by decide +kernel⟩
abbrev st_is_keeper : Stmt := top 16
abbrev N_is_keeper : List Str := [(PySem.Str.ofString "thing"), (PySem.Str.ofString "told"), (PySem.Str.ofString "sent"), (PySem.Str.ofString "heard"), (PySem.Str.ofString "own")]
abbrev ps_is_keeper : List Str := [(PySem.Str.ofString "thing")]
def m_is_keeper : MS := (mSeq (mIfS (mOr (mNot (mTruth (mOpA dIsi (mCons (mVar 0) (mCons (mCon (.ty .tuple)) mNil))))) (mB (mOp2 (dEqA true) (mOpA dLenA (mCons (mVar 0) mNil)) (mCon (.int 3))))) (mSeq (mRet (mCon (.bl false)))
    mNx) mNx)
    (mSeq (mAsg (tTup 3 (tsCons (tName 1) (tsCons (tName 2) (tsCons (tName 3) tsNil)))) (mVar 0))
    (mSeq (mIfS (mOr (mNot (mTruth (mOpA dIsi (mCons (mVar 1) (mCons (mCon (.ty .tuple)) mNil))))) (mOr (mB (mOp2 (dEqA false) (mOpA dLenA (mCons (mVar 1) mNil)) (mCon (.int 0)))) (mNot (mTruth (mOpA dAll (mCons (mLc (mIter (mVar 1)) (tName 4) (mPure true) (mOpA dIsi (mCons (mVar 4) (mCons (mCon (.ty .bool)) mNil))) [4]) mNil)))))) (mSeq (mRet (mCon (.bl false)))
    mNx) mNx)
    (mSeq (mRet (mAndV (mCall f_are_puts (mCons (mVar 2) (mCons (mOpA dLenA (mCons (mVar 1) mNil)) mNil))) (mAndV (mCall f_are_takes (mCons (mVar 3) (mCons (mOpA dLenA (mCons (mVar 1) mNil)) mNil))) (mOp2 (dEqA false) (mOpA dLenA (mCons (mOp2 dIx (mVar 2) (mCon (.int 0))) mNil)) (mOpA dLenA (mCons (mOp2 dIx (mVar 3) (mCon (.int 0))) mNil))))))
    mNx))))
def f_is_keeper : FM := runDef N_is_keeper.length m_is_keeper
theorem sc_is_keeper : FnScope N_is_keeper ps_is_keeper (defScope st_is_keeper) := ⟨rfl, rfl, rfl, by decide +kernel, rfl, by decide +kernel, by decide +kernel⟩
abbrev st_letters_of : Stmt := top 21
abbrev N_letters_of : List Str := [(PySem.Str.ofString "keeper")]
abbrev ps_letters_of : List Str := [(PySem.Str.ofString "keeper")]
def m_letters_of : MS := (mSeq (mRet (mOpA dLenA (mCons (mOp2 dIx (mOp2 dIx (mVar 0) (mCon (.int 1))) (mCon (.int 0))) mNil)))
    mNx)
def f_letters_of : FM := runDef N_letters_of.length m_letters_of
theorem sc_letters_of : FnScope N_letters_of ps_letters_of (defScope st_letters_of) := ⟨rfl, rfl, rfl, by decide +kernel, rfl, by decide +kernel, by decide +kernel⟩
abbrev st_marks_of : Stmt := top 22
abbrev N_marks_of : List Str := [(PySem.Str.ofString "keeper")]
abbrev ps_marks_of : List Str := [(PySem.Str.ofString "keeper")]
def m_marks_of : MS := (mSeq (mRet (mOpA dLenA (mCons (mOp2 dIx (mOp2 dIx (mOp2 dIx (mVar 0) (mCon (.int 2))) (mCon (.int 0))) (mCon (.int 0))) mNil)))
    mNx)
def f_marks_of : FM := runDef N_marks_of.length m_marks_of
theorem sc_marks_of : FnScope N_marks_of ps_marks_of (defScope st_marks_of) := ⟨rfl, rfl, rfl, by decide +kernel, rfl, by decide +kernel, by decide +kernel⟩
abbrev st_greatest_mark : Stmt := top 24
abbrev N_greatest_mark : List Str := [(PySem.Str.ofString "keeper"), (PySem.Str.ofString "row"), (PySem.Str.ofString "_"), (PySem.Str.ofString "mark")]
abbrev ps_greatest_mark : List Str := [(PySem.Str.ofString "keeper")]
def m_greatest_mark : MS := (mSeq (mRet (mOpA dMaxA (mCons (mLc2 (mIter (mOp2 dIx (mVar 0) (mCon (.int 1)))) (tName 1) (mPure true) (mIter (mVar 1)) (tTup 2 (tsCons (tName 2) (tsCons (tName 3) tsNil))) (mPure true) (mVar 3) [1, 2, 3] [2, 3]) mNil)))
    mNx)
def f_greatest_mark : FM := runDef N_greatest_mark.length m_greatest_mark
theorem sc_greatest_mark : FnScope N_greatest_mark ps_greatest_mark (defScope st_greatest_mark) := ⟨rfl, rfl, rfl, by decide +kernel, rfl, by decide +kernel, by decide +kernel⟩
abbrev st_is_pair : Stmt := top 23
abbrev N_is_pair : List Str := [(PySem.Str.ofString "thing"), (PySem.Str.ofString "first"), (PySem.Str.ofString "second"), (PySem.Str.ofString "own")]
abbrev ps_is_pair : List Str := [(PySem.Str.ofString "thing")]
def m_is_pair : MS := (mSeq (mIfS (mOr (mNot (mTruth (mOpA dIsi (mCons (mVar 0) (mCons (mCon (.ty .tuple)) mNil))))) (mOr (mB (mOp2 (dEqA true) (mOpA dLenA (mCons (mVar 0) mNil)) (mCon (.int 2)))) (mNot (mTruth (mOpA dAll (mCons (mLc (mIter (mVar 0)) (tName 3) (mPure true) (mCall f_is_keeper (mCons (mVar 3) mNil)) [3]) mNil)))))) (mSeq (mRet (mCon (.bl false)))
    mNx) mNx)
    (mSeq (mAsg (tTup 2 (tsCons (tName 1) (tsCons (tName 2) tsNil))) (mVar 0))
    (mSeq (mIfS (mB (mOp2 (dEqA true) (mCall f_letters_of (mCons (mVar 1) mNil)) (mCall f_letters_of (mCons (mVar 2) mNil)))) (mSeq (mRet (mCon (.bl false)))
    mNx) mNx)
    (mSeq (mRet (mAndV (mOp2 dLt (mCall f_greatest_mark (mCons (mVar 1) mNil)) (mCall f_marks_of (mCons (mVar 2) mNil))) (mOp2 dLt (mCall f_greatest_mark (mCons (mVar 2) mNil)) (mCall f_marks_of (mCons (mVar 1) mNil)))))
    mNx))))
def f_is_pair : FM := runDef N_is_pair.length m_is_pair
theorem sc_is_pair : FnScope N_is_pair ps_is_pair (defScope st_is_pair) := ⟨rfl, rfl, rfl, by decide +kernel, rfl, by decide +kernel, by decide +kernel⟩
abbrev st_lines_of : Stmt := top 27
abbrev N_lines_of : List Str := [(PySem.Str.ofString "text")]
abbrev ps_lines_of : List Str := [(PySem.Str.ofString "text")]
def m_lines_of : MS := (mSeq (mRet (mIf (mTruthS (mVar 0)) (mM1 tSplit (mVar 0) (mCon (.str "\n"))) (mLst mNil)))
    mNx)
def f_lines_of : FM := runDef N_lines_of.length m_lines_of
theorem sc_lines_of : FnScope N_lines_of ps_lines_of (defScope st_lines_of) := ⟨rfl, rfl, rfl, by decide +kernel, rfl, by decide +kernel, by decide +kernel⟩
abbrev st_is_figures : Stmt := top 28
abbrev N_is_figures : List Str := [(PySem.Str.ofString "word"), (PySem.Str.ofString "sign")]
abbrev ps_is_figures : List Str := [(PySem.Str.ofString "word")]
def m_is_figures : MS := (mSeq (mIfS (mOr (mB (mOp2 (dEqA false) (mVar 0) (mCon (.str "")))) (mNot (mTruthS (mOpA dAll (mCons (mLc (mIterS (mVar 0)) (tName 1) (mPure true) (mOp2 dInSg (mVar 1) (mCon (.str "0123456789"))) [1]) mNil))))) (mSeq (mRet (mCon (.bl false)))
    mNx) mNx)
    (mSeq (mRet (mOrV (mOp2 (dEqA false) (mVar 0) (mCon (.str "0"))) (mOp2 (dEqA true) (mOp2 dIxA (mVar 0) (mCon (.int 0))) (mCon (.str "0")))))
    mNx))
def f_is_figures : FM := runDef N_is_figures.length m_is_figures
theorem sc_is_figures : FnScope N_is_figures ps_is_figures (defScope st_is_figures) := ⟨rfl, rfl, rfl, by decide +kernel, rfl, by decide +kernel, by decide +kernel⟩
abbrev st_Reader___init__ : Stmt := mthd 29 0
abbrev N_Reader___init__ : List Str := [(PySem.Str.ofString "self"), (PySem.Str.ofString "text")]
abbrev ps_Reader___init__ : List Str := [(PySem.Str.ofString "self"), (PySem.Str.ofString "text")]
def m_Reader___init__ : MS := (mSeq (mSetA [(PySem.Str.ofString "Reader")] "lines" (mVar 0) (mCall f_lines_of (mCons (mVar 1) mNil)))
    (mSeq (mSetA [(PySem.Str.ofString "Reader")] "place" (mVar 0) (mCon (.int 0)))
    mNx))
def f_Reader___init__ : FM := runDef N_Reader___init__.length m_Reader___init__
theorem sc_Reader___init__ : FnScope N_Reader___init__ ps_Reader___init__ (defScope st_Reader___init__) := ⟨rfl, rfl, rfl, by decide +kernel, rfl, by decide +kernel, by decide +kernel⟩
abbrev st_Reader_is_done : Stmt := mthd 29 1
abbrev N_Reader_is_done : List Str := [(PySem.Str.ofString "self")]
abbrev ps_Reader_is_done : List Str := [(PySem.Str.ofString "self")]
def m_Reader_is_done : MS := (mSeq (mRet (mOp2 (dEqA false) (mOp1 (dFld [(PySem.Str.ofString "Reader")] "place") (mVar 0)) (mOpA dLenA (mCons (mOp1 (dFld [(PySem.Str.ofString "Reader")] "lines") (mVar 0)) mNil))))
    mNx)
def f_Reader_is_done : FM := runDef N_Reader_is_done.length m_Reader_is_done
theorem sc_Reader_is_done : FnScope N_Reader_is_done ps_Reader_is_done (defScope st_Reader_is_done) := ⟨rfl, rfl, rfl, by decide +kernel, rfl, by decide +kernel, by decide +kernel⟩
abbrev st_Reader_comes : Stmt := mthd 29 2
abbrev N_Reader_comes : List Str := [(PySem.Str.ofString "self"), (PySem.Str.ofString "word")]
abbrev ps_Reader_comes : List Str := [(PySem.Str.ofString "self"), (PySem.Str.ofString "word")]
def m_Reader_comes : MS := (mSeq (mRet (mAndV (mNotV (mMtO "Reader" "is_done" f_Reader_is_done (mVar 0) mNil)) (mOp2 (dEqA false) (mOp2 dIx (mM1 tSplit (mOp2 dIx (mOp1 (dFld [(PySem.Str.ofString "Reader")] "lines") (mVar 0)) (mOp1 (dFld [(PySem.Str.ofString "Reader")] "place") (mVar 0))) (mCon (.str " "))) (mCon (.int 0))) (mVar 1))))
    mNx)
def f_Reader_comes : FM := runDef N_Reader_comes.length m_Reader_comes
theorem sc_Reader_comes : FnScope N_Reader_comes ps_Reader_comes (defScope st_Reader_comes) := ⟨rfl, rfl, rfl, by decide +kernel, rfl, by decide +kernel, by decide +kernel⟩
abbrev st_Reader_check : Stmt := mthd 29 6
abbrev N_Reader_check : List Str := [(PySem.Str.ofString "self"), (PySem.Str.ofString "fits")]
abbrev ps_Reader_check : List Str := [(PySem.Str.ofString "self"), (PySem.Str.ofString "fits")]
def m_Reader_check : MS := (mSeq (mIfS (mNot (mTruth (mVar 1))) (mSeq (mRaise1 "BadLine" "line" (mOp1 (dFld [(PySem.Str.ofString "Reader")] "place") (mVar 0)))
    mNx) mNx)
    mNx)
def f_Reader_check : FM := runDef N_Reader_check.length m_Reader_check
theorem sc_Reader_check : FnScope N_Reader_check ps_Reader_check (defScope st_Reader_check) := ⟨rfl, rfl, rfl, by decide +kernel, rfl, by decide +kernel, by decide +kernel⟩
abbrev st_Reader_behind : Stmt := mthd 29 3
abbrev N_Reader_behind : List Str := [(PySem.Str.ofString "self"), (PySem.Str.ofString "word"), (PySem.Str.ofString "fits")]
abbrev ps_Reader_behind : List Str := [(PySem.Str.ofString "self"), (PySem.Str.ofString "word")]
def m_Reader_behind : MS := (mSeq (mSet 2 (mMtO "Reader" "comes" f_Reader_comes (mVar 0) (mCons (mVar 1) mNil)))
    (mSeq (mAugA [(PySem.Str.ofString "Reader")] "place" (mVar 0) (mCon (.int 1)))
    (mSeq (mExpr (mMtO "Reader" "check" f_Reader_check (mVar 0) (mCons (mVar 2) mNil)))
    (mSeq (mRet (mSl (mM1 tSplit (mOp2 dIx (mOp1 (dFld [(PySem.Str.ofString "Reader")] "lines") (mVar 0)) (mOp2 dSub (mOp1 (dFld [(PySem.Str.ofString "Reader")] "place") (mVar 0)) (mCon (.int 1)))) (mCon (.str " "))) (mPart (mCon (.int 1))) (mPure none)))
    mNx))))
def f_Reader_behind : FM := runDef N_Reader_behind.length m_Reader_behind
theorem sc_Reader_behind : FnScope N_Reader_behind ps_Reader_behind (defScope st_Reader_behind) := ⟨rfl, rfl, rfl, by decide +kernel, rfl, by decide +kernel, by decide +kernel⟩
abbrev st_Reader_counted : Stmt := mthd 29 4
abbrev N_Reader_counted : List Str := [(PySem.Str.ofString "self"), (PySem.Str.ofString "word"), (PySem.Str.ofString "told"), (PySem.Str.ofString "own")]
abbrev ps_Reader_counted : List Str := [(PySem.Str.ofString "self"), (PySem.Str.ofString "word")]
def m_Reader_counted : MS := (mSeq (mSet 2 (mMtO "Reader" "behind" f_Reader_behind (mVar 0) (mCons (mVar 1) mNil)))
    (mSeq (mExpr (mMtO "Reader" "check" f_Reader_check (mVar 0) (mCons (mOpA dAll (mCons (mLc (mIter (mVar 2)) (tName 3) (mPure true) (mCall f_is_figures (mCons (mVar 3) mNil)) [3]) mNil)) mNil)))
    (mSeq (mRet (mLc (mIter (mVar 2)) (tName 3) (mPure true) (mOpA dIntS (mCons (mVar 3) mNil)) [3]))
    mNx)))
def f_Reader_counted : FM := runDef N_Reader_counted.length m_Reader_counted
theorem sc_Reader_counted : FnScope N_Reader_counted ps_Reader_counted (defScope st_Reader_counted) := ⟨rfl, rfl, rfl, by decide +kernel, rfl, by decide +kernel, by decide +kernel⟩
abbrev st_Reader_counted_just : Stmt := mthd 29 5
abbrev N_Reader_counted_just : List Str := [(PySem.Str.ofString "self"), (PySem.Str.ofString "word"), (PySem.Str.ofString "many"), (PySem.Str.ofString "found")]
abbrev ps_Reader_counted_just : List Str := [(PySem.Str.ofString "self"), (PySem.Str.ofString "word"), (PySem.Str.ofString "many")]
def m_Reader_counted_just : MS := (mSeq (mSet 3 (mMtO "Reader" "counted" f_Reader_counted (mVar 0) (mCons (mVar 1) mNil)))
    (mSeq (mExpr (mMtO "Reader" "check" f_Reader_check (mVar 0) (mCons (mOp2 (dEqA false) (mOpA dLenA (mCons (mVar 3) mNil)) (mVar 2)) mNil)))
    (mSeq (mRet (mVar 3))
    mNx)))
def f_Reader_counted_just : FM := runDef N_Reader_counted_just.length m_Reader_counted_just
theorem sc_Reader_counted_just : FnScope N_Reader_counted_just ps_Reader_counted_just (defScope st_Reader_counted_just) := ⟨rfl, rfl, rfl, by decide +kernel, rfl, by decide +kernel, by decide +kernel⟩
abbrev st_Reader_end : Stmt := mthd 29 7
abbrev N_Reader_end : List Str := [(PySem.Str.ofString "self")]
abbrev ps_Reader_end : List Str := [(PySem.Str.ofString "self")]
def m_Reader_end : MS := (mSeq (mIfS (mNot (mTruth (mMtO "Reader" "is_done" f_Reader_is_done (mVar 0) mNil))) (mSeq (mRaise1 "BadLine" "line" (mOp2 dAdd (mOp1 (dFld [(PySem.Str.ofString "Reader")] "place") (mVar 0)) (mCon (.int 1))))
    mNx) mNx)
    mNx)
def f_Reader_end : FM := runDef N_Reader_end.length m_Reader_end
theorem sc_Reader_end : FnScope N_Reader_end ps_Reader_end (defScope st_Reader_end) := ⟨rfl, rfl, rfl, by decide +kernel, rfl, by decide +kernel, by decide +kernel⟩
abbrev st_line_with : Stmt := top 30
abbrev N_line_with : List Str := [(PySem.Str.ofString "word"), (PySem.Str.ofString "numbers"), (PySem.Str.ofString "own")]
abbrev ps_line_with : List Str := [(PySem.Str.ofString "word"), (PySem.Str.ofString "numbers")]
def m_line_with : MS := (mSeq (mRet (mM1 tJoin (mCon (.str " ")) (mOp2 dAdd (mLst (mCons (mVar 0) mNil)) (mLc (mIter (mVar 1)) (tName 2) (mPure true) (mOpA dStrI (mCons (mVar 2) mNil)) [2]))))
    mNx)
def f_line_with : FM := runDef N_line_with.length m_line_with
theorem sc_line_with : FnScope N_line_with ps_line_with (defScope st_line_with) := ⟨rfl, rfl, rfl, by decide +kernel, rfl, by decide +kernel, by decide +kernel⟩
abbrev st_machine_text : Stmt := top 31
abbrev N_machine_text : List Str := [(PySem.Str.ofString "machine"), (PySem.Str.ofString "lines"), (PySem.Str.ofString "steps"), (PySem.Str.ofString "ends"), (PySem.Str.ofString "row")]
abbrev ps_machine_text : List Str := [(PySem.Str.ofString "machine")]
def m_machine_text : MS := (mSeq (mAsg (tTup 2 (tsCons (tName 2) (tsCons (tName 3) tsNil))) (mVar 0))
    (mSeq (mSet 1 (mOp2 dAdd (mLst (mCons (mCall f_line_with (mCons (mCon (.str "machine")) (mCons (mLst (mCons (mCall f_letters_in (mCons (mVar 0) mNil)) mNil)) mNil))) mNil)) (mLc (mIter (mVar 2)) (tName 4) (mPure true) (mCall f_line_with (mCons (mCon (.str "state")) (mCons (mVar 4) mNil))) [4])))
    (mSeq (mRet (mM1 tJoin (mCon (.str "\n")) (mOp2 dAdd (mVar 1) (mLst (mCons (mCall f_line_with (mCons (mCon (.str "ends")) (mCons (mVar 3) mNil))) mNil)))))
    mNx)))
def f_machine_text : FM := runDef N_machine_text.length m_machine_text
theorem sc_machine_text : FnScope N_machine_text ps_machine_text (defScope st_machine_text) := ⟨rfl, rfl, rfl, by decide +kernel, rfl, by decide +kernel, by decide +kernel⟩
abbrev st_run_text : Stmt := top 32
abbrev N_run_text : List Str := [(PySem.Str.ofString "run"), (PySem.Str.ofString "events"), (PySem.Str.ofString "side"), (PySem.Str.ofString "letter")]
abbrev ps_run_text : List Str := [(PySem.Str.ofString "run")]
def m_run_text : MS := (mSeq (mSet 1 (mLc (mIter (mVar 0)) (tTup 2 (tsCons (tName 2) (tsCons (tName 3) tsNil))) (mPure true) (mIf (mB (mOp2 dGt (mVar 3) (mCon (.int 0)))) (mCall f_line_with (mCons (mCon (.str "put")) (mCons (mLst (mCons (mVar 2) (mCons (mVar 3) mNil))) mNil))) (mCall f_line_with (mCons (mCon (.str "take")) (mCons (mLst (mCons (mVar 2) mNil)) mNil)))) [2, 3]))
    (mSeq (mRet (mM1 tJoin (mCon (.str "\n")) (mOp2 dAdd (mLst (mCons (mCon (.str "run")) mNil)) (mVar 1))))
    mNx))
def f_run_text : FM := runDef N_run_text.length m_run_text
theorem sc_run_text : FnScope N_run_text ps_run_text (defScope st_run_text) := ⟨rfl, rfl, rfl, by decide +kernel, rfl, by decide +kernel, by decide +kernel⟩
abbrev st_keeper_text : Stmt := top 33
abbrev N_keeper_text : List Str := [(PySem.Str.ofString "keeper"), (PySem.Str.ofString "answers"), (PySem.Str.ofString "lines"), (PySem.Str.ofString "told"), (PySem.Str.ofString "sent"), (PySem.Str.ofString "heard"), (PySem.Str.ofString "puts"), (PySem.Str.ofString "takes"), (PySem.Str.ofString "own"), (PySem.Str.ofString "step"), (PySem.Str.ofString "row")]
abbrev ps_keeper_text : List Str := [(PySem.Str.ofString "keeper")]
def m_keeper_text : MS := (mSeq (mAsg (tTup 3 (tsCons (tName 3) (tsCons (tName 4) (tsCons (tName 5) tsNil)))) (mVar 0))
    (mSeq (mSet 1 (mLc (mIter (mVar 3)) (tName 8) (mPure true) (mIf (mTruth (mVar 8)) (mCon (.str "yes")) (mCon (.str "no"))) [8]))
    (mSeq (mSet 2 (mLst (mCons (mCall f_line_with (mCons (mCon (.str "keeper")) (mCons (mLst (mCons (mCall f_letters_of (mCons (mVar 0) mNil)) (mCons (mCall f_marks_of (mCons (mVar 0) mNil)) mNil))) mNil))) (mCons (mM1 tJoin (mCon (.str " ")) (mOp2 dAdd (mLst (mCons (mCon (.str "answers")) mNil)) (mVar 1))) mNil))))
    (mSeq (mFor (mZip (mCons (mVar 4) (mCons (mVar 5) mNil))) (tTup 2 (tsCons (tName 6) (tsCons (tName 7) tsNil))) (mSeq (mExpr (mMeth ckL fAppend (mVar 2) (mCons (mCall f_line_with (mCons (mCon (.str "puts")) (mCons (mLc2 (mIter (mVar 6)) (tName 9) (mPure true) (mIter (mVar 9)) (tName 8) (mPure true) (mVar 8) [9, 8] [8]) mNil))) mNil)))
    (mSeq (mExpr (mMeth ckL fAppend (mVar 2) (mCons (mCall f_line_with (mCons (mCon (.str "takes")) (mCons (mLc2 (mIter (mVar 7)) (tName 10) (mPure true) (mIter (mVar 10)) (tName 8) (mPure true) (mVar 8) [10, 8] [8]) mNil))) mNil)))
    mNx)))
    (mSeq (mRet (mM1 tJoin (mCon (.str "\n")) (mVar 2)))
    mNx)))))
def f_keeper_text : FM := runDef N_keeper_text.length m_keeper_text
theorem sc_keeper_text : FnScope N_keeper_text ps_keeper_text (defScope st_keeper_text) := ⟨rfl, rfl, rfl, by decide +kernel, rfl, by decide +kernel, by decide +kernel⟩
abbrev st_pair_text : Stmt := top 34
abbrev N_pair_text : List Str := [(PySem.Str.ofString "pair"), (PySem.Str.ofString "keeper")]
abbrev ps_pair_text : List Str := [(PySem.Str.ofString "pair")]
def m_pair_text : MS := (mSeq (mRet (mM1 tJoin (mCon (.str "\n")) (mLc (mIter (mVar 0)) (tName 1) (mPure true) (mCall f_keeper_text (mCons (mVar 1) mNil)) [1])))
    mNx)
def f_pair_text : FM := runDef N_pair_text.length m_pair_text
theorem sc_pair_text : FnScope N_pair_text ps_pair_text (defScope st_pair_text) := ⟨rfl, rfl, rfl, by decide +kernel, rfl, by decide +kernel, by decide +kernel⟩
abbrev st_machine_read : Stmt := top 35
abbrev N_machine_read : List Str := [(PySem.Str.ofString "text"), (PySem.Str.ofString "reader"), (PySem.Str.ofString "many"), (PySem.Str.ofString "steps"), (PySem.Str.ofString "ends"), (PySem.Str.ofString "machine"), (PySem.Str.ofString "low"), (PySem.Str.ofString "high")]
abbrev ps_machine_read : List Str := [(PySem.Str.ofString "text")]
def m_machine_read : MS := (mSeq (mSet 1 (mMake "Reader" f_Reader___init__ (mCons (mVar 0) mNil)))
    (mSeq (mSet 2 (mOp2 dIx (mMtO "Reader" "counted_just" f_Reader_counted_just (mVar 1) (mCons (mCon (.str "machine")) (mCons (mCon (.int 1)) mNil))) (mCon (.int 0))))
    (mSeq (mExpr (mMtO "Reader" "check" f_Reader_check (mVar 1) (mCons (mOp2 dGt (mVar 2) (mCon (.int 0))) mNil)))
    (mSeq (mSet 3 (mLst (mCons (mOpA dTuple (mCons (mMtO "Reader" "counted_just" f_Reader_counted_just (mVar 1) (mCons (mCon (.str "state")) (mCons (mVar 2) mNil))) mNil)) mNil)))
    (mSeq (loopW (mTruth (mMtO "Reader" "comes" f_Reader_comes (mVar 1) (mCons (mCon (.str "state")) mNil))) (mSeq (mExpr (mMeth ckL fAppend (mVar 3) (mCons (mOpA dTuple (mCons (mMtO "Reader" "counted_just" f_Reader_counted_just (mVar 1) (mCons (mCon (.str "state")) (mCons (mVar 2) mNil))) mNil)) mNil)))
    mNx) 100000)
    (mSeq (mSet 4 (mMtO "Reader" "counted" f_Reader_counted (mVar 1) (mCons (mCon (.str "ends")) mNil)))
    (mSeq (mExpr (mMtO "Reader" "check" f_Reader_check (mVar 1) (mCons (mOpA dAll (mCons (mLc (mZip (mCons (mVar 4) (mCons (mSl (mVar 4) (mPart (mCon (.int 1))) (mPure none)) mNil))) (tTup 2 (tsCons (tName 6) (tsCons (tName 7) tsNil))) (mPure true) (mOp2 dLt (mVar 6) (mVar 7)) [6, 7]) mNil)) mNil)))
    (mSeq (mExpr (mMtO "Reader" "end" f_Reader_end (mVar 1) mNil))
    (mSeq (mSet 5 (mTup (mCons (mOpA dTuple (mCons (mVar 3) mNil)) (mCons (mOpA dTuple (mCons (mVar 4) mNil)) mNil))))
    (mSeq (mIfS (mNot (mTruth (mCall f_is_machine (mCons (mVar 5) mNil)))) (mSeq (mRaise0 "Unfit")
    mNx) mNx)
    (mSeq (mRet (mVar 5))
    mNx)))))))))))
def f_machine_read : FM := runDef N_machine_read.length m_machine_read
theorem sc_machine_read : FnScope N_machine_read ps_machine_read (defScope st_machine_read) := ⟨rfl, rfl, rfl, by decide +kernel, rfl, by decide +kernel, by decide +kernel⟩
abbrev st_event_read : Stmt := top 36
abbrev N_event_read : List Str := [(PySem.Str.ofString "reader"), (PySem.Str.ofString "side"), (PySem.Str.ofString "letter")]
abbrev ps_event_read : List Str := [(PySem.Str.ofString "reader")]
def m_event_read : MS := (mSeq (mIfS (mNot (mTruth (mMtO "Reader" "comes" f_Reader_comes (mVar 0) (mCons (mCon (.str "put")) mNil)))) (mSeq (mRet (mTup (mCons (mOp2 dIx (mMtO "Reader" "counted_just" f_Reader_counted_just (mVar 0) (mCons (mCon (.str "take")) (mCons (mCon (.int 1)) mNil))) (mCon (.int 0))) (mCons (mCon (.int 0)) mNil))))
    mNx) mNx)
    (mSeq (mAsg (tTup 2 (tsCons (tName 1) (tsCons (tName 2) tsNil))) (mMtO "Reader" "counted_just" f_Reader_counted_just (mVar 0) (mCons (mCon (.str "put")) (mCons (mCon (.int 2)) mNil))))
    (mSeq (mExpr (mMtO "Reader" "check" f_Reader_check (mVar 0) (mCons (mOp2 dGt (mVar 2) (mCon (.int 0))) mNil)))
    (mSeq (mRet (mTup (mCons (mVar 1) (mCons (mVar 2) mNil))))
    mNx))))
def f_event_read : FM := runDef N_event_read.length m_event_read
theorem sc_event_read : FnScope N_event_read ps_event_read (defScope st_event_read) := ⟨rfl, rfl, rfl, by decide +kernel, rfl, by decide +kernel, by decide +kernel⟩
abbrev st_run_read : Stmt := top 37
abbrev N_run_read : List Str := [(PySem.Str.ofString "text"), (PySem.Str.ofString "reader"), (PySem.Str.ofString "events"), (PySem.Str.ofString "run")]
abbrev ps_run_read : List Str := [(PySem.Str.ofString "text")]
def m_run_read : MS := (mSeq (mSet 1 (mMake "Reader" f_Reader___init__ (mCons (mVar 0) mNil)))
    (mSeq (mExpr (mMtO "Reader" "counted_just" f_Reader_counted_just (mVar 1) (mCons (mCon (.str "run")) (mCons (mCon (.int 0)) mNil))))
    (mSeq (mSet 2 (mLst mNil))
    (mSeq (loopW (mNot (mTruth (mMtO "Reader" "is_done" f_Reader_is_done (mVar 1) mNil))) (mSeq (mExpr (mMeth ckL fAppend (mVar 2) (mCons (mCall f_event_read (mCons (mVar 1) mNil)) mNil)))
    mNx) 100000)
    (mSeq (mSet 3 (mOpA dTuple (mCons (mVar 2) mNil)))
    (mSeq (mIfS (mNot (mTruth (mCall f_is_run (mCons (mVar 3) mNil)))) (mSeq (mRaise0 "Unfit")
    mNx) mNx)
    (mSeq (mRet (mVar 3))
    mNx)))))))
def f_run_read : FM := runDef N_run_read.length m_run_read
theorem sc_run_read : FnScope N_run_read ps_run_read (defScope st_run_read) := ⟨rfl, rfl, rfl, by decide +kernel, rfl, by decide +kernel, by decide +kernel⟩
abbrev st_keeper_lines_read : Stmt := top 38
abbrev N_keeper_lines_read : List Str := [(PySem.Str.ofString "reader"), (PySem.Str.ofString "told"), (PySem.Str.ofString "sent"), (PySem.Str.ofString "heard"), (PySem.Str.ofString "_"), (PySem.Str.ofString "letters"), (PySem.Str.ofString "marks"), (PySem.Str.ofString "puts"), (PySem.Str.ofString "takes"), (PySem.Str.ofString "own"), (PySem.Str.ofString "at")]
abbrev ps_keeper_lines_read : List Str := [(PySem.Str.ofString "reader")]
def m_keeper_lines_read : MS := (mSeq (mAsg (tTup 2 (tsCons (tName 5) (tsCons (tName 6) tsNil))) (mMtO "Reader" "counted_just" f_Reader_counted_just (mVar 0) (mCons (mCon (.str "keeper")) (mCons (mCon (.int 2)) mNil))))
    (mSeq (mExpr (mMtO "Reader" "check" f_Reader_check (mVar 0) (mCons (mAndV (mOp2 dGt (mVar 5) (mCon (.int 0))) (mOp2 dGt (mVar 6) (mCon (.int 0)))) mNil)))
    (mSeq (mSet 1 (mMtO "Reader" "behind" f_Reader_behind (mVar 0) (mCons (mCon (.str "answers")) mNil)))
    (mSeq (mExpr (mMtO "Reader" "check" f_Reader_check (mVar 0) (mCons (mAndV (mOp2 dGt (mOpA dLenA (mCons (mVar 1) mNil)) (mCon (.int 0))) (mOpA dAll (mCons (mLc (mIter (mVar 1)) (tName 9) (mPure true) (mOp2 (dInB "ANSWERS" kvs_ANSWERS false) (mVar 9) (mCon (.gl "ANSWERS"))) [9]) mNil))) mNil)))
    (mSeq (mSet 2 (mLst mNil))
    (mSeq (mSet 3 (mLst mNil))
    (mSeq (mFor (mIter (mVar 1)) (tName 4) (mSeq (mSet 7 (mMtO "Reader" "counted_just" f_Reader_counted_just (mVar 0) (mCons (mCon (.str "puts")) (mCons (mOp2 dMulW (mCon (.int 2)) (mVar 5)) mNil))))
    (mSeq (mSet 8 (mMtO "Reader" "counted_just" f_Reader_counted_just (mVar 0) (mCons (mCon (.str "takes")) (mCons (mOp2 dMulW (mVar 5) (mVar 6)) mNil))))
    (mSeq (mExpr (mMeth ckL fAppend (mVar 2) (mCons (mOpA dTuple (mCons (mLc (mRange1 (mCons (mVar 5) mNil)) (tName 10) (mPure true) (mTup (mCons (mOp2 dIx (mVar 7) (mOp2 dMulW (mCon (.int 2)) (mVar 10))) (mCons (mOp2 dIx (mVar 7) (mOp2 dAdd (mOp2 dMulW (mCon (.int 2)) (mVar 10)) (mCon (.int 1)))) mNil))) [10]) mNil)) mNil)))
    (mSeq (mExpr (mMeth ckL fAppend (mVar 3) (mCons (mOpA dTuple (mCons (mLc (mRange1 (mCons (mVar 5) mNil)) (tName 10) (mPure true) (mOpA dTuple (mCons (mSl (mVar 8) (mPart (mOp2 dMulW (mVar 10) (mVar 6))) (mPart (mOp2 dAdd (mOp2 dMulW (mVar 10) (mVar 6)) (mVar 6)))) mNil)) [10]) mNil)) mNil)))
    mNx)))))
    (mSeq (mRet (mTup (mCons (mOpA dTuple (mCons (mLc (mIter (mVar 1)) (tName 9) (mPure true) (mOp2 (dIxB "ANSWERS" kvs_ANSWERS) (mCon (.gl "ANSWERS")) (mVar 9)) [9]) mNil)) (mCons (mOpA dTuple (mCons (mVar 2) mNil)) (mCons (mOpA dTuple (mCons (mVar 3) mNil)) mNil)))))
    mNx))))))))
def f_keeper_lines_read : FM := runDef N_keeper_lines_read.length m_keeper_lines_read
theorem sc_keeper_lines_read : FnScope N_keeper_lines_read ps_keeper_lines_read (defScope st_keeper_lines_read) := ⟨rfl, rfl, rfl, by decide +kernel, rfl, by decide +kernel, by decide +kernel⟩
abbrev st_keeper_read : Stmt := top 39
abbrev N_keeper_read : List Str := [(PySem.Str.ofString "text"), (PySem.Str.ofString "reader"), (PySem.Str.ofString "keeper")]
abbrev ps_keeper_read : List Str := [(PySem.Str.ofString "text")]
def m_keeper_read : MS := (mSeq (mSet 1 (mMake "Reader" f_Reader___init__ (mCons (mVar 0) mNil)))
    (mSeq (mSet 2 (mCall f_keeper_lines_read (mCons (mVar 1) mNil)))
    (mSeq (mExpr (mMtO "Reader" "end" f_Reader_end (mVar 1) mNil))
    (mSeq (mIfS (mNot (mTruth (mCall f_is_keeper (mCons (mVar 2) mNil)))) (mSeq (mRaise0 "Unfit")
    mNx) mNx)
    (mSeq (mRet (mVar 2))
    mNx)))))
def f_keeper_read : FM := runDef N_keeper_read.length m_keeper_read
theorem sc_keeper_read : FnScope N_keeper_read ps_keeper_read (defScope st_keeper_read) := ⟨rfl, rfl, rfl, by decide +kernel, rfl, by decide +kernel, by decide +kernel⟩
abbrev st_pair_read : Stmt := top 40
abbrev N_pair_read : List Str := [(PySem.Str.ofString "text"), (PySem.Str.ofString "reader"), (PySem.Str.ofString "first"), (PySem.Str.ofString "second")]
abbrev ps_pair_read : List Str := [(PySem.Str.ofString "text")]
def m_pair_read : MS := (mSeq (mSet 1 (mMake "Reader" f_Reader___init__ (mCons (mVar 0) mNil)))
    (mSeq (mSet 2 (mCall f_keeper_lines_read (mCons (mVar 1) mNil)))
    (mSeq (mSet 3 (mCall f_keeper_lines_read (mCons (mVar 1) mNil)))
    (mSeq (mExpr (mMtO "Reader" "end" f_Reader_end (mVar 1) mNil))
    (mSeq (mIfS (mNot (mTruth (mCall f_is_pair (mCons (mTup (mCons (mVar 2) (mCons (mVar 3) mNil))) mNil)))) (mSeq (mRaise0 "Unfit")
    mNx) mNx)
    (mSeq (mRet (mTup (mCons (mVar 2) (mCons (mVar 3) mNil))))
    mNx))))))
def f_pair_read : FM := runDef N_pair_read.length m_pair_read
theorem sc_pair_read : FnScope N_pair_read ps_pair_read (defScope st_pair_read) := ⟨rfl, rfl, rfl, by decide +kernel, rfl, by decide +kernel, by decide +kernel⟩
abbrev st__law_box : Stmt := top 42
abbrev N__law_box : List Str := [(PySem.Str.ofString "script"), (PySem.Str.ofString "k"), (PySem.Str.ofString "cell")]
abbrev ps__law_box : List Str := [(PySem.Str.ofString "script"), (PySem.Str.ofString "k")]
def m__law_box : MS := (mSeq (mSet 2 (mIf (mB (mOp2 dLt (mVar 1) (mOpA dLenA (mCons (mVar 0) mNil)))) (mOp2 dIx (mVar 0) (mVar 1)) (mCon (.int 0))))
    (mSeq (mRet (mLst (mCons (mOp2 dMulW (mOpA dAbs (mCons (mVar 2) mNil)) (mOpA dInt1 (mCons (mOp2 dGe (mOpA dAbs (mCons (mVar 2) mNil)) (mOp2 dPow (mCon (.int 10)) (mCon (.int 18)))) mNil))) (mCons (mOp2 dAdd (mOp2 dAdd (mOp2 dMod (mOpA dInt1 (mCons (mVar 2) mNil)) (mCon (.int 2305843009213693951))) (mOp2 dMulW (mCon (.int 39373)) (mVar 1))) (mCon (.int 176034))) (mCons (mCon (.int 0)) mNil)))))
    mNx))
def f__law_box : FM := runDef N__law_box.length m__law_box
theorem sc__law_box : FnScope N__law_box ps__law_box (defScope st__law_box) := ⟨rfl, rfl, rfl, by decide +kernel, rfl, by decide +kernel, by decide +kernel⟩
abbrev st__law_take : Stmt := top 43
abbrev N__law_take : List Str := [(PySem.Str.ofString "urn"), (PySem.Str.ofString "low_so"), (PySem.Str.ofString "once"), (PySem.Str.ofString "far"), (PySem.Str.ofString "twice"), (PySem.Str.ofString "drawn")]
abbrev ps__law_take : List Str := [(PySem.Str.ofString "urn"), (PySem.Str.ofString "low_so")]
def m__law_take : MS := (mSeq (mIfS (mB (mOp2 dGt (mOp2 dIx (mVar 0) (mCon (.int 0))) (mCon (.int 0)))) (mSeq (mSet 5 (mOp2 dMod (mOpA dInt1 (mCons (mOp2 dIx (mVar 0) (mCon (.int 0))) mNil)) (mVar 1)))
    (mSeq (mAsg (tSub (mVar 0) (mCon (.int 0))) (mOp2 dFdv (mOp2 dIx (mVar 0) (mCon (.int 0))) (mVar 1)))
    (mSeq (mRet (mVar 5))
    mNx))) mNx)
    (mSeq (mAsg (tSub (mVar 0) (mCon (.int 2))) (mOp2 dAdd (mOp2 dIx (mVar 0) (mCon (.int 2))) (mCon (.int 1))))
    (mSeq (mSet 2 (mOp2 dMod (mOpA dInt1 (mCons (mOp2 dMulW (mOp2 dAdd (mOp2 dIx (mVar 0) (mCon (.int 1))) (mOp2 dMulW (mCon (.int 48271)) (mOp2 dIx (mVar 0) (mCon (.int 2))))) (mOp2 dAdd (mCon (.int 39373)) (mOp2 dIx (mVar 0) (mCon (.int 2))))) mNil)) (mCon (.int 2147483647))))
    (mSeq (mSet 3 (mOp2 dAdd (mOp2 dMod (mOpA dInt1 (mCons (mVar 2) mNil)) (mCon (.int 40009))) (mCon (.int 7))))
    (mSeq (mSet 4 (mOp2 dMod (mOpA dInt1 (mCons (mOp2 dMulW (mOp2 dAdd (mOp2 dAdd (mVar 2) (mOp2 dIx (mVar 0) (mCon (.int 2)))) (mOp2 dFdv (mOp2 dIx (mVar 0) (mCon (.int 1))) (mCon (.int 1000003)))) (mVar 3)) mNil)) (mCon (.int 2147483629))))
    (mSeq (mRet (mOp2 dMod (mOpA dInt1 (mCons (mOp2 dFdv (mOp2 dMod (mOpA dInt1 (mCons (mOp2 dAdd (mOp2 dMulW (mVar 4) (mCon (.int 48271))) (mVar 2)) mNil)) (mCon (.int 2147483587))) (mCon (.int 64))) mNil)) (mVar 1)))
    mNx))))))
def f__law_take : FM := runDef N__law_take.length m__law_take
theorem sc__law_take : FnScope N__law_take ps__law_take (defScope st__law_take) := ⟨rfl, rfl, rfl, by decide +kernel, rfl, by decide +kernel, by decide +kernel⟩
abbrev st__law_cells : Stmt := top 44
abbrev N__law_cells : List Str := [(PySem.Str.ofString "script"), (PySem.Str.ofString "top"), (PySem.Str.ofString "cells"), (PySem.Str.ofString "k"), (PySem.Str.ofString "cell"), (PySem.Str.ofString "at_so")]
abbrev ps__law_cells : List Str := [(PySem.Str.ofString "script"), (PySem.Str.ofString "top")]
def m__law_cells : MS := (mSeq (mSet 2 (mOrV (mOpA dListA (mCons (mSl (mVar 0) (mPure none) (mPart (mVar 1))) mNil)) (mLst (mCons (mCon (.int 0)) mNil))))
    (mSeq (mFor (mEnum 0 (mSl (mVar 0) (mPart (mVar 1)) (mPart (mCon (.int 63))))) (tTup 2 (tsCons (tName 3) (tsCons (tName 4) tsNil))) (mSeq (mSet 5 (mOp2 dMod (mOpA dInt1 (mCons (mVar 3) mNil)) (mVar 1)))
    (mSeq (mAsg (tSub (mVar 2) (mVar 5)) (mOp2 dAdd (mOp2 dIx (mVar 2) (mVar 5)) (mOp2 dMulW (mVar 4) (mOp2 dAdd (mVar 3) (mCon (.int 2))))))
    mNx)))
    (mSeq (mRet (mVar 2))
    mNx)))
def f__law_cells : FM := runDef N__law_cells.length m__law_cells
theorem sc__law_cells : FnScope N__law_cells ps__law_cells (defScope st__law_cells) := ⟨rfl, rfl, rfl, by decide +kernel, rfl, by decide +kernel, by decide +kernel⟩
abbrev st__law_lists : Stmt := top 45
abbrev N__law_lists : List Str := [(PySem.Str.ofString "matter"), (PySem.Str.ofString "bit")]
abbrev ps__law_lists : List Str := [(PySem.Str.ofString "matter")]
def m__law_lists (fm : FM) : MS := (mSeq (mRet (mIf (mTruth (mOpA dIsi (mCons (mVar 0) (mCons (mTup (mCons (mCon (.ty .list)) (mCons (mCon (.ty .tuple)) mNil))) mNil)))) (mLc (mIter (mVar 0)) (tName 1) (mPure true) (mCall fm (mCons (mVar 1) mNil)) [1]) (mVar 0)))
    mNx)
def f__law_lists : FM := fuelF N__law_lists m__law_lists 40
theorem sc__law_lists : FnScope N__law_lists ps__law_lists (defScope st__law_lists) := ⟨rfl, rfl, rfl, by decide +kernel, rfl, by decide +kernel, by decide +kernel⟩
abbrev st__law_same : Stmt := top 46
abbrev N__law_same : List Str := [(PySem.Str.ofString "got"), (PySem.Str.ofString "goal"), (PySem.Str.ofString "mine_so"), (PySem.Str.ofString "own")]
abbrev ps__law_same : List Str := [(PySem.Str.ofString "got"), (PySem.Str.ofString "goal")]
def m__law_same (fm : FM) : MS := (mSeq (mIfS (mTruth (mOpA dIsi (mCons (mVar 1) (mCons (mTup (mCons (mCon (.ty .list)) (mCons (mCon (.ty .tuple)) mNil))) mNil)))) (mSeq (mIfS (mOr (mB (mOp2 (dEqA true) (mOpA dIsi (mCons (mVar 0) (mCons (mCon (.ty .list)) mNil))) (mOpA dIsi (mCons (mVar 1) (mCons (mCon (.ty .list)) mNil))))) (mB (mOp2 (dEqA true) (mOpA dIsi (mCons (mVar 0) (mCons (mCon (.ty .tuple)) mNil))) (mOpA dIsi (mCons (mVar 1) (mCons (mCon (.ty .tuple)) mNil)))))) (mSeq (mRet (mCon (.bl false)))
    mNx) mNx)
    (mSeq (mRet (mAndV (mOp2 (dEqA false) (mOpA dLenA (mCons (mVar 0) mNil)) (mOpA dLenA (mCons (mVar 1) mNil))) (mOpA dAll (mCons (mLc (mZip (mCons (mVar 0) (mCons (mVar 1) mNil))) (tTup 2 (tsCons (tName 2) (tsCons (tName 3) tsNil))) (mPure true) (mCall fm (mCons (mVar 2) (mCons (mVar 3) mNil))) [2, 3]) mNil))))
    mNx)) mNx)
    (mSeq (mIfS (mOr (mB (mOp2 (dIsB false) (mVar 1) (mCon .non))) (mTruth (mOpA dIsi (mCons (mVar 1) (mCons (mTup (mCons (mCon (.ty .bool)) (mCons (mCon (.ty .str)) mNil))) mNil))))) (mSeq (mRet (mAndV (mOp2 (dEqA false) (mVar 0) (mVar 1)) (mAndV (mOp2 (dEqA false) (mOpA dIsi (mCons (mVar 0) (mCons (mCon (.ty .bool)) mNil))) (mOpA dIsi (mCons (mVar 1) (mCons (mCon (.ty .bool)) mNil)))) (mOp2 (dEqA false) (mOp2 (dIsB false) (mVar 0) (mCon .non)) (mOp2 (dIsB false) (mVar 1) (mCon .non))))))
    mNx) mNx)
    (mSeq (mRet (mAndV (mOpA dIsi (mCons (mVar 0) (mCons (mCon (.ty .int)) mNil))) (mAndV (mNotV (mOpA dIsi (mCons (mVar 0) (mCons (mCon (.ty .bool)) mNil)))) (mOp2 (dEqA false) (mVar 0) (mVar 1)))))
    mNx)))
def f__law_same : FM := fuelF N__law_same m__law_same 40
theorem sc__law_same : FnScope N__law_same ps__law_same (defScope st__law_same) := ⟨rfl, rfl, rfl, by decide +kernel, rfl, by decide +kernel, by decide +kernel⟩
abbrev st__law_even : Stmt := top 47
abbrev N__law_even : List Str := []
abbrev ps__law_even : List Str := []
def m__law_even : MS := (mSeq (mRet (mTup (mCons (mTup (mCons (mTup (mCons (mCon (.int 1)) mNil)) (mCons (mTup (mCons (mCon (.int 0)) mNil)) mNil))) (mCons (mTup (mCons (mCon (.int 0)) mNil)) mNil))))
    mNx)
def f__law_even : FM := runDef N__law_even.length m__law_even
theorem sc__law_even : FnScope N__law_even ps__law_even (defScope st__law_even) := ⟨rfl, rfl, rfl, by decide +kernel, rfl, by decide +kernel, by decide +kernel⟩
abbrev st__law_flip : Stmt := top 48
abbrev N__law_flip : List Str := []
abbrev ps__law_flip : List Str := []
def m__law_flip : MS := (mSeq (mRet (mTup (mCons (mTup (mCons (mCon (.bl true)) (mCons (mCon (.bl false)) mNil))) (mCons (mTup (mCons (mTup (mCons (mTup (mCons (mCon (.int 1)) (mCons (mCon (.int 0)) mNil))) mNil)) (mCons (mTup (mCons (mTup (mCons (mCon (.int 0)) (mCons (mCon (.int 0)) mNil))) mNil)) mNil))) (mCons (mTup (mCons (mTup (mCons (mTup (mCons (mCon (.int 1)) mNil)) mNil)) (mCons (mTup (mCons (mTup (mCons (mCon (.int 0)) mNil)) mNil)) mNil))) mNil)))))
    mNx)
def f__law_flip : FM := runDef N__law_flip.length m__law_flip
theorem sc__law_flip : FnScope N__law_flip ps__law_flip (defScope st__law_flip) := ⟨rfl, rfl, rfl, by decide +kernel, rfl, by decide +kernel, by decide +kernel⟩
abbrev st__law_lead : Stmt := top 49
abbrev N__law_lead : List Str := []
abbrev ps__law_lead : List Str := []
def m__law_lead : MS := (mSeq (mRet (mTup (mCons (mTup (mCons (mCon (.bl false)) (mCons (mCon (.bl true)) mNil))) (mCons (mTup (mCons (mTup (mCons (mTup (mCons (mCon (.int 1)) (mCons (mCon (.int 0)) mNil))) mNil)) (mCons (mTup (mCons (mTup (mCons (mCon (.int 0)) (mCons (mCon (.int 1)) mNil))) mNil)) mNil))) (mCons (mTup (mCons (mTup (mCons (mTup (mCons (mCon (.int 1)) mNil)) mNil)) (mCons (mTup (mCons (mTup (mCons (mCon (.int 0)) mNil)) mNil)) mNil))) mNil)))))
    mNx)
def f__law_lead : FM := runDef N__law_lead.length m__law_lead
theorem sc__law_lead : FnScope N__law_lead ps__law_lead (defScope st__law_lead) := ⟨rfl, rfl, rfl, by decide +kernel, rfl, by decide +kernel, by decide +kernel⟩
abbrev st__law_hear : Stmt := top 50
abbrev N__law_hear : List Str := []
abbrev ps__law_hear : List Str := []
def m__law_hear : MS := (mSeq (mRet (mTup (mCons (mTup (mCons (mCon (.bl false)) (mCons (mCon (.bl true)) mNil))) (mCons (mTup (mCons (mTup (mCons (mTup (mCons (mCon (.int 1)) (mCons (mCon (.int 0)) mNil))) mNil)) (mCons (mTup (mCons (mTup (mCons (mCon (.int 0)) (mCons (mCon (.int 0)) mNil))) mNil)) mNil))) (mCons (mTup (mCons (mTup (mCons (mTup (mCons (mCon (.int 1)) (mCons (mCon (.int 1)) mNil))) mNil)) (mCons (mTup (mCons (mTup (mCons (mCon (.int 0)) (mCons (mCon (.int 0)) mNil))) mNil)) mNil))) mNil)))))
    mNx)
def f__law_hear : FM := runDef N__law_hear.length m__law_hear
theorem sc__law_hear : FnScope N__law_hear ps__law_hear (defScope st__law_hear) := ⟨rfl, rfl, rfl, by decide +kernel, rfl, by decide +kernel, by decide +kernel⟩
abbrev st__law_heard : Stmt := top 51
abbrev N__law_heard : List Str := [(PySem.Str.ofString "door"), (PySem.Str.ofString "text_so"), (PySem.Str.ofString "slip"), (PySem.Str.ofString "found")]
abbrev ps__law_heard : List Str := [(PySem.Str.ofString "door"), (PySem.Str.ofString "text_so")]
def m__law_heard : MS := (mSeq (mTry ["BadLine", "Unfit"] (mSeq (mSet 3 (mCallV 1 [((PySem.Str.ofString "machine_read"), f_machine_read), ((PySem.Str.ofString "run_read"), f_run_read), ((PySem.Str.ofString "keeper_read"), f_keeper_read), ((PySem.Str.ofString "pair_read"), f_pair_read)] (mOp2 dIx (mTup (mCons (mCon (.gl (PySem.Str.ofString "machine_read"))) (mCons (mCon (.gl (PySem.Str.ofString "run_read"))) (mCons (mCon (.gl (PySem.Str.ofString "keeper_read"))) (mCons (mCon (.gl (PySem.Str.ofString "pair_read"))) mNil))))) (mVar 0)) (mCons (mVar 1) mNil)))
    mNx) [⟨"BadLine", (some 2), (fun c fs => mSet 3 (mXL (xCons (xC (.str "line")) (xCons (xAt "BadLine" "line") (xCons (xIsi "BadLine" true) xNil))) c fs))⟩, ⟨"Unfit", (some 2), (fun c fs => mSet 3 (mXL (xCons (xC (.str "unfit")) (xCons (xIsi "Unfit" true) xNil)) c fs))⟩])
    (mSeq (mRet (mVar 3))
    mNx))
def f__law_heard : FM := runDef N__law_heard.length m__law_heard
theorem sc__law_heard : FnScope N__law_heard ps__law_heard (defScope st__law_heard) := ⟨rfl, rfl, rfl, by decide +kernel, rfl, by decide +kernel, by decide +kernel⟩
abbrev st__law_flip_text : Stmt := top 52
abbrev N__law_flip_text : List Str := []
abbrev ps__law_flip_text : List Str := []
def m__law_flip_text : MS := (mSeq (mRet (mCon (.str "keeper 1 1\nanswers yes no\nputs 1 0\ntakes 1\nputs 0 0\ntakes 0")))
    mNx)
def f__law_flip_text : FM := runDef N__law_flip_text.length m__law_flip_text
theorem sc__law_flip_text : FnScope N__law_flip_text ps__law_flip_text (defScope st__law_flip_text) := ⟨rfl, rfl, rfl, by decide +kernel, rfl, by decide +kernel, by decide +kernel⟩
abbrev st__law_two_text : Stmt := top 53
abbrev N__law_two_text : List Str := []
abbrev ps__law_two_text : List Str := []
def m__law_two_text : MS := (mSeq (mRet (mCon (.str "keeper 1 1\nanswers no yes\nputs 1 0\ntakes 1\nputs 0 1\ntakes 0\nkeeper 1 2\nanswers no yes\nputs 1 0\ntakes 1 1\nputs 0 0\ntakes 0 0")))
    mNx)
def f__law_two_text : FM := runDef N__law_two_text.length m__law_two_text
theorem sc__law_two_text : FnScope N__law_two_text ps__law_two_text (defScope st__law_two_text) := ⟨rfl, rfl, rfl, by decide +kernel, rfl, by decide +kernel, by decide +kernel⟩
abbrev st__law_always_right : Stmt := top 54
abbrev N__law_always_right : List Str := [(PySem.Str.ofString "meet"), (PySem.Str.ofString "got"), (PySem.Str.ofString "due")]
abbrev ps__law_always_right : List Str := []
def m__law_always_right : MS := (mSeq (mSet 0 (mTup (mCons (mTup (mCons (mCon (.int 0)) (mCons (mCon (.int 1)) mNil))) (mCons (mTup (mCons (mCon (.int 1)) (mCons (mCon (.int 2)) mNil))) (mCons (mTup (mCons (mCon (.int 1)) (mCons (mCon (.int 0)) mNil))) (mCons (mTup (mCons (mCon (.int 0)) (mCons (mCon (.int 0)) mNil))) mNil))))))
    (mSeq (mSet 1 (mLst (mCons (mCall f_machine_text (mCons (mCall f__law_even mNil) mNil)) (mCons (mCall f__law_heard (mCons (mCon (.int 0)) (mCons (mCon (.str "machine 2\nstate 0 0\nends")) mNil))) (mCons (mCall f_run_text (mCons (mVar 0) mNil)) (mCons (mCall f__law_heard (mCons (mCon (.int 1)) (mCons (mCon (.str "run")) mNil))) mNil))))))
    (mSeq (mSet 2 (mLst (mCons (mCon (.str "machine 1\nstate 1\nstate 0\nends 0")) (mCons (mTup (mCons (mTup (mCons (mTup (mCons (mCon (.int 0)) (mCons (mCon (.int 0)) mNil))) mNil)) (mCons (mTup mNil) mNil))) (mCons (mCon (.str "run\nput 0 1\nput 1 2\ntake 1\ntake 0")) (mCons (mTup mNil) mNil))))))
    (mSeq (mSet 1 (mOp2 dAdd (mVar 1) (mLst (mCons (mCall f_keeper_text (mCons (mCall f__law_flip mNil) mNil)) (mCons (mCall f__law_heard (mCons (mCon (.int 2)) (mCons (mCall f__law_flip_text mNil) mNil))) (mCons (mCall f_pair_text (mCons (mTup (mCons (mCall f__law_lead mNil) (mCons (mCall f__law_hear mNil) mNil))) mNil)) mNil))))))
    (mSeq (mSet 1 (mOp2 dAdd (mVar 1) (mLst (mCons (mCall f__law_heard (mCons (mCon (.int 3)) (mCons (mCall f__law_two_text mNil) mNil))) mNil))))
    (mSeq (mSet 2 (mOp2 dAdd (mVar 2) (mLst (mCons (mCall f__law_flip_text mNil) (mCons (mCall f__law_flip mNil) (mCons (mCall f__law_two_text mNil) (mCons (mTup (mCons (mCall f__law_lead mNil) (mCons (mCall f__law_hear mNil) mNil))) mNil)))))))
    (mSeq (mSet 1 (mOp2 dAdd (mVar 1) (mLst (mCons (mCall f__law_heard (mCons (mCon (.int 1)) (mCons (mCon (.str "run\nput 0 0")) mNil))) (mCons (mCall f__law_heard (mCons (mCon (.int 1)) (mCons (mCon (.str "run\nput 0 1\ntake 0")) mNil))) (mCons (mCall f__law_heard (mCons (mCon (.int 2)) (mCons (mCon (.str "keeper 1 1\nanswers yes\nputs 0 0")) mNil))) mNil))))))
    (mSeq (mSet 1 (mOp2 dAdd (mVar 1) (mLst (mCons (mCall f__law_heard (mCons (mCon (.int 3)) (mCons (mOp2 dAddS (mCall f__law_two_text mNil) (mCon (.str "\n"))) mNil))) mNil))))
    (mSeq (mRet (mCall f__law_same (mCons (mVar 1) (mCons (mOp2 dAdd (mVar 2) (mLst (mCons (mLst (mCons (mCon (.str "line")) (mCons (mCon (.int 2)) (mCons (mCon (.bl true)) mNil)))) (mCons (mLst (mCons (mCon (.str "unfit")) (mCons (mCon (.bl true)) mNil))) (mCons (mLst (mCons (mCon (.str "line")) (mCons (mCon (.int 4)) (mCons (mCon (.bl true)) mNil)))) (mCons (mLst (mCons (mCon (.str "line")) (mCons (mCon (.int 13)) (mCons (mCon (.bl true)) mNil)))) mNil)))))) mNil))))
    mNx)))))))))
def f__law_always_right : FM := runDef N__law_always_right.length m__law_always_right
theorem sc__law_always_right : FnScope N__law_always_right ps__law_always_right (defScope st__law_always_right) := ⟨rfl, rfl, rfl, by decide +kernel, rfl, by decide +kernel, by decide +kernel⟩
abbrev st__law_told_right : Stmt := top 55
abbrev N__law_told_right : List Str := [(PySem.Str.ofString "meet"), (PySem.Str.ofString "told"), (PySem.Str.ofString "got"), (PySem.Str.ofString "due"), (PySem.Str.ofString "wide"), (PySem.Str.ofString "even"), (PySem.Str.ofString "flip"), (PySem.Str.ofString "two")]
abbrev ps__law_told_right : List Str := []
def m__law_told_right : MS := (mSeq (mPar [5, 6, 7] (mCons (mCall f__law_even mNil) (mCons (mCall f__law_flip mNil) (mCons (mTup (mCons (mCall f__law_lead mNil) (mCons (mCall f__law_hear mNil) mNil))) mNil))))
    (mSeq (mSet 0 (mTup (mCons (mTup (mCons (mCon (.int 1)) (mCons (mCon (.int 3)) mNil))) (mCons (mTup (mCons (mCon (.int 0)) (mCons (mCon (.int 0)) mNil))) (mCons (mTup (mCons (mCon (.int 0)) (mCons (mCon (.int 1)) mNil))) (mCons (mTup (mCons (mCon (.int 0)) (mCons (mCon (.int 2)) mNil))) (mCons (mTup (mCons (mCon (.int 1)) (mCons (mCon (.int 0)) mNil))) mNil)))))))
    (mSeq (mSet 1 (mCon (.str "run\nput 1 3\ntake 0\nput 0 1\nput 0 2\ntake 1")))
    (mSeq (mSet 2 (mLst (mCons (mCallK f_machine_text 0 1 [0] 1 mNil (mCons (mCall f__law_lists (mCons (mVar 5) mNil)) mNil)) (mCons (mCallK f_machine_read 0 1 [0] 1 mNil (mCons (mCall f_machine_text (mCons (mVar 5) mNil)) mNil)) (mCons (mCallK f_run_text 0 1 [0] 1 mNil (mCons (mCall f__law_lists (mCons (mVar 0) mNil)) mNil)) mNil)))))
    (mSeq (mSet 2 (mOp2 dAdd (mVar 2) (mLst (mCons (mCallK f_run_read 0 1 [0] 1 mNil (mCons (mVar 1) mNil)) mNil))))
    (mSeq (mSet 3 (mLst (mCons (mCon (.str "machine 1\nstate 1\nstate 0\nends 0")) (mCons (mVar 5) (mCons (mVar 1) (mCons (mVar 0) mNil))))))
    (mSeq (mSet 2 (mOp2 dAdd (mVar 2) (mLst (mCons (mCallK f_keeper_text 0 1 [0] 1 mNil (mCons (mCall f__law_lists (mCons (mVar 6) mNil)) mNil)) (mCons (mCallK f_keeper_read 0 1 [0] 1 mNil (mCons (mCall f_keeper_text (mCons (mVar 6) mNil)) mNil)) (mCons (mCallK f_pair_text 0 1 [0] 1 mNil (mCons (mCall f__law_lists (mCons (mVar 7) mNil)) mNil)) mNil))))))
    (mSeq (mSet 2 (mOp2 dAdd (mVar 2) (mLst (mCons (mCallK f_pair_read 0 1 [0] 1 mNil (mCons (mCall f_pair_text (mCons (mVar 7) mNil)) mNil)) mNil))))
    (mSeq (mSet 3 (mOp2 dAdd (mVar 3) (mLst (mCons (mCall f__law_flip_text mNil) (mCons (mVar 6) (mCons (mCall f__law_two_text mNil) (mCons (mVar 7) mNil)))))))
    (mSeq (mSet 4 (mTup (mCons (mTup (mCons (mCon (.bl true)) mNil)) (mCons (mTup (mCons (mTup (mCons (mTup (mCons (mCon (.int 0)) (mCons (mCon (.int 0)) mNil))) (mCons (mTup (mCons (mCon (.int 0)) (mCons (mCon (.int 3)) mNil))) mNil))) mNil)) (mCons (mTup (mCons (mTup (mCons (mTup (mCons (mCon (.int 0)) (mCons (mCon (.int 0)) mNil))) (mCons (mTup (mCons (mCon (.int 0)) (mCons (mCon (.int 0)) mNil))) mNil))) mNil)) mNil)))))
    (mSeq (mSet 2 (mOp2 dAdd (mVar 2) (mLst (mCons (mCall f_keeper_text (mCons (mVar 4) mNil)) (mCons (mCall f_keeper_read (mCons (mCon (.str "keeper 2 3\nanswers no\nputs 0 7 0 0\ntakes 0 0 0 0 0 0")) mNil)) (mCons (mCall f_run_text (mCons (mTup mNil) mNil)) mNil))))))
    (mSeq (mSet 2 (mOp2 dAdd (mVar 2) (mLst (mCons (mCall f_run_text (mCons (mTup (mCons (mTup (mCons (mCon (.int 1)) (mCons (mCon (.int 1)) mNil))) mNil)) mNil)) mNil))))
    (mSeq (mSet 3 (mOp2 dAdd (mVar 3) (mLst (mCons (mCon (.str "keeper 2 2\nanswers yes\nputs 0 0 0 3\ntakes 0 0 0 0")) (mCons (mTup (mCons (mTup (mCons (mCon (.bl false)) mNil)) (mCons (mTup (mCons (mTup (mCons (mTup (mCons (mCon (.int 0)) (mCons (mCon (.int 7)) mNil))) (mCons (mTup (mCons (mCon (.int 0)) (mCons (mCon (.int 0)) mNil))) mNil))) mNil)) (mCons (mTup (mCons (mTup (mCons (mTup (mCons (mCon (.int 0)) (mCons (mCon (.int 0)) (mCons (mCon (.int 0)) mNil)))) (mCons (mTup (mCons (mCon (.int 0)) (mCons (mCon (.int 0)) (mCons (mCon (.int 0)) mNil)))) mNil))) mNil)) mNil)))) (mCons (mCon (.str "run")) mNil))))))
    (mSeq (mSet 3 (mOp2 dAdd (mVar 3) (mLst (mCons (mCon (.str "run\nput 1 1")) mNil))))
    (mSeq (mSet 2 (mOp2 dAdd (mVar 2) (mLst (mCons (mCall f_run_read (mCons (mCon (.str "run\nput 1 999999999999")) mNil)) (mCons (mCall f_keeper_read (mCons (mCon (.str "keeper 1 1\nanswers yes\nputs 0 999999999999\ntakes 0")) mNil)) mNil)))))
    (mSeq (mSet 3 (mOp2 dAdd (mVar 3) (mLst (mCons (mTup (mCons (mTup (mCons (mCon (.int 1)) (mCons (mCon (.int 999999999999)) mNil))) mNil)) (mCons (mTup (mCons (mTup (mCons (mCon (.bl true)) mNil)) (mCons (mTup (mCons (mTup (mCons (mTup (mCons (mCon (.int 0)) (mCons (mCon (.int 999999999999)) mNil))) mNil)) mNil)) (mCons (mTup (mCons (mTup (mCons (mTup (mCons (mCon (.int 0)) mNil)) mNil)) mNil)) mNil)))) mNil)))))
    (mSeq (mSet 2 (mOp2 dAdd (mVar 2) (mLst (mCons (mCall f_keeper_read (mCons (mCon (.str "keeper 1 2\nanswers yes no\nputs 1 0\ntakes 0 1\nputs 0 0\ntakes 1 0")) mNil)) mNil))))
    (mSeq (mSet 2 (mOp2 dAdd (mVar 2) (mLst (mCons (mCall f_machine_text (mCons (mTup (mCons (mTup (mCons (mTup (mCons (mCon (.int 0)) (mCons (mCon (.int 1)) mNil))) (mCons (mTup (mCons (mCon (.int 1)) (mCons (mCon (.int 1)) mNil))) mNil))) (mCons (mTup (mCons (mCon (.int 0)) (mCons (mCon (.int 1)) mNil))) mNil))) mNil)) mNil))))
    (mSeq (mSet 3 (mOp2 dAdd (mVar 3) (mLst (mCons (mTup (mCons (mTup (mCons (mCon (.bl true)) (mCons (mCon (.bl false)) mNil))) (mCons (mTup (mCons (mTup (mCons (mTup (mCons (mCon (.int 1)) (mCons (mCon (.int 0)) mNil))) mNil)) (mCons (mTup (mCons (mTup (mCons (mCon (.int 0)) (mCons (mCon (.int 0)) mNil))) mNil)) mNil))) (mCons (mTup (mCons (mTup (mCons (mTup (mCons (mCon (.int 0)) (mCons (mCon (.int 1)) mNil))) mNil)) (mCons (mTup (mCons (mTup (mCons (mCon (.int 1)) (mCons (mCon (.int 0)) mNil))) mNil)) mNil))) mNil)))) (mCons (mCon (.str "machine 2\nstate 0 1\nstate 1 1\nends 0 1")) mNil)))))
    (mSeq (mRet (mCall f__law_same (mCons (mVar 2) (mCons (mVar 3) mNil))))
    mNx))))))))))))))))))))
def f__law_told_right : FM := runDef N__law_told_right.length m__law_told_right
theorem sc__law_told_right : FnScope N__law_told_right ps__law_told_right (defScope st__law_told_right) := ⟨rfl, rfl, rfl, by decide +kernel, rfl, by decide +kernel, by decide +kernel⟩
abbrev st__law_lines_right : Stmt := top 56
abbrev N__law_lines_right : List Str := [(PySem.Str.ofString "rows_so"), (PySem.Str.ofString "head"), (PySem.Str.ofString "got"), (PySem.Str.ofString "flip"), (PySem.Str.ofString "two"), (PySem.Str.ofString "own")]
abbrev ps__law_lines_right : List Str := []
def m__law_lines_right : MS := (mSeq (mAsg (tTup 2 (tsCons (tName 3) (tsCons (tName 4) tsNil))) (mTup (mCons (mCall f__law_flip_text mNil) (mCons (mCall f__law_two_text mNil) mNil))))
    (mSeq (mSet 0 (mLc (mIter (mTup (mCons (mCon (.str "")) (mCons (mCon (.str "machine")) (mCons (mCon (.str "machine 0")) (mCons (mCon (.str "machine 01")) (mCons (mCon (.str "machine 1 1")) (mCons (mCon (.str " machine 1")) (mCons (mCon (.str "machines 1")) (mCons (mCon (.str "machine -1")) mNil)))))))))) (tName 5) (mPure true) (mTup (mCons (mCon (.int 0)) (mCons (mVar 5) (mCons (mCon (.int 1)) mNil)))) [5]))
    (mSeq (mSet 0 (mOp2 dAddS (mVar 0) (mLc (mIter (mTup (mCons (mCon (.str "")) (mCons (mCon (.str "\nends")) (mCons (mCon (.str "\nstate")) (mCons (mCon (.str "\nstate 0 0")) (mCons (mCon (.str "\nstate  0")) mNil))))))) (tName 5) (mPure true) (mTup (mCons (mCon (.int 0)) (mCons (mOp2 dAddS (mCon (.str "machine 1")) (mVar 5)) (mCons (mCon (.int 2)) mNil)))) [5])))
    (mSeq (mSet 0 (mOp2 dAddS (mVar 0) (mLst (mCons (mTup (mCons (mCon (.int 0)) (mCons (mCon (.str "machine 2\nstate 0")) (mCons (mCon (.int 2)) mNil)))) (mCons (mTup (mCons (mCon (.int 0)) (mCons (mCon (.str "machine 1\nstate 9\nends 1 1")) (mCons (mCon (.int 3)) mNil)))) mNil)))))
    (mSeq (mSet 0 (mOp2 dAddS (mVar 0) (mLc (mIter (mTup (mCons (mCon (.str "")) (mCons (mCon (.str "\nstates 0")) (mCons (mCon (.str "\nends 0 0")) (mCons (mCon (.str "\nends 1 0")) (mCons (mCon (.str "\nends 00")) (mCons (mCon (.str "\nends 0 ")) (mCons (mCon (.str "\n")) mNil))))))))) (tName 5) (mPure true) (mTup (mCons (mCon (.int 0)) (mCons (mOp2 dAddS (mCon (.str "machine 1\nstate 0")) (mVar 5)) (mCons (mCon (.int 3)) mNil)))) [5])))
    (mSeq (mSet 0 (mOp2 dAddS (mVar 0) (mLc (mIter (mTup (mCons (mCon (.str "\n")) (mCons (mCon (.str "\nends 0")) mNil)))) (tName 5) (mPure true) (mTup (mCons (mCon (.int 0)) (mCons (mOp2 dAddS (mCon (.str "machine 1\nstate 0\nends 0")) (mVar 5)) (mCons (mCon (.int 4)) mNil)))) [5])))
    (mSeq (mSet 0 (mOp2 dAddS (mVar 0) (mLc (mIter (mTup (mCons (mCon (.str "")) (mCons (mCon (.str "runs")) (mCons (mCon (.str "run 1")) (mCons (mCon (.str " run")) (mCons (mCon (.str "run ")) (mCons (mCon (.str "put 0 1")) (mCons (mCon (.str "\nrun")) mNil))))))))) (tName 5) (mPure true) (mTup (mCons (mCon (.int 1)) (mCons (mVar 5) (mCons (mCon (.int 1)) mNil)))) [5])))
    (mSeq (mSet 0 (mOp2 dAddS (mVar 0) (mLc (mIter (mTup (mCons (mCon (.str "")) (mCons (mCon (.str "put 0")) (mCons (mCon (.str "put 0 1 1")) (mCons (mCon (.str "put 0 0")) (mCons (mCon (.str "put 0 x")) (mCons (mCon (.str "take")) (mCons (mCon (.str "take 0 0")) mNil))))))))) (tName 5) (mPure true) (mTup (mCons (mCon (.int 1)) (mCons (mOp2 dAddS (mCon (.str "run\n")) (mVar 5)) (mCons (mCon (.int 2)) mNil)))) [5])))
    (mSeq (mSet 0 (mOp2 dAddS (mVar 0) (mLc (mIter (mTup (mCons (mCon (.str "takes 0")) (mCons (mCon (.str "put 00 1")) (mCons (mCon (.str "put 0  1")) (mCons (mCon (.str "put -1 1")) (mCons (mCon (.str "run")) mNil))))))) (tName 5) (mPure true) (mTup (mCons (mCon (.int 1)) (mCons (mOp2 dAddS (mCon (.str "run\n")) (mVar 5)) (mCons (mCon (.int 2)) mNil)))) [5])))
    (mSeq (mSet 0 (mOp2 dAddS (mVar 0) (mLst (mCons (mTup (mCons (mCon (.int 1)) (mCons (mCon (.str "run\ntake 0\nput 0 0")) (mCons (mCon (.int 3)) mNil)))) (mCons (mTup (mCons (mCon (.int 1)) (mCons (mCon (.str "run\nput 0 1\ntake 1\n")) (mCons (mCon (.int 4)) mNil)))) mNil)))))
    (mSeq (mSet 0 (mOp2 dAddS (mVar 0) (mLc (mIter (mTup (mCons (mCon (.str "")) (mCons (mCon (.str "keeper 1")) (mCons (mCon (.str "keeper 0 1")) (mCons (mCon (.str "keeper 1 0")) (mCons (mCon (.str "keeper 1 1 1")) (mCons (mCon (.str "keepers 1 1")) mNil)))))))) (tName 5) (mPure true) (mTup (mCons (mCon (.int 2)) (mCons (mVar 5) (mCons (mCon (.int 1)) mNil)))) [5])))
    (mSeq (mSet 0 (mOp2 dAddS (mVar 0) (mLc (mIter (mTup (mCons (mCon (.str "")) (mCons (mCon (.str "\nanswers")) (mCons (mCon (.str "\nanswers maybe")) (mCons (mCon (.str "\nanswers yes  no")) (mCons (mCon (.str "\nputs 0 0")) mNil))))))) (tName 5) (mPure true) (mTup (mCons (mCon (.int 2)) (mCons (mOp2 dAddS (mCon (.str "keeper 1 1")) (mVar 5)) (mCons (mCon (.int 2)) mNil)))) [5])))
    (mSeq (mSet 1 (mCon (.str "keeper 1 1\nanswers no")))
    (mSeq (mSet 0 (mOp2 dAddS (mVar 0) (mLc (mIter (mTup (mCons (mCon (.str "")) (mCons (mCon (.str "\n")) (mCons (mCon (.str "\nputs 0")) (mCons (mCon (.str "\nputs 0 0 0")) (mCons (mCon (.str "\ntakes 0")) (mCons (mCon (.str "\nputs 0 x")) mNil)))))))) (tName 5) (mPure true) (mTup (mCons (mCon (.int 2)) (mCons (mOp2 dAddS (mVar 1) (mVar 5)) (mCons (mCon (.int 3)) mNil)))) [5])))
    (mSeq (mSet 0 (mOp2 dAddS (mVar 0) (mLc (mIter (mTup (mCons (mCon (.str "")) (mCons (mCon (.str "\n")) (mCons (mCon (.str "\ntakes")) (mCons (mCon (.str "\ntakes 0 0")) (mCons (mCon (.str "\nputs 0 0")) mNil))))))) (tName 5) (mPure true) (mTup (mCons (mCon (.int 2)) (mCons (mOp2 dAddS (mOp2 dAddS (mVar 1) (mCon (.str "\nputs 0 0"))) (mVar 5)) (mCons (mCon (.int 4)) mNil)))) [5])))
    (mSeq (mSet 0 (mOp2 dAddS (mVar 0) (mLc (mIter (mTup (mCons (mCon (.str "\n")) (mCons (mCon (.str "\ntakes 0")) (mCons (mCon (.str "\nkeeper 1 1")) mNil))))) (tName 5) (mPure true) (mTup (mCons (mCon (.int 2)) (mCons (mOp2 dAddS (mVar 3) (mVar 5)) (mCons (mCon (.int 7)) mNil)))) [5])))
    (mSeq (mSet 0 (mOp2 dAddS (mVar 0) (mLst (mCons (mTup (mCons (mCon (.int 2)) (mCons (mCon (.str "keeper 1 2\nanswers no\nputs 0 0\ntakes 0")) (mCons (mCon (.int 4)) mNil)))) (mCons (mTup (mCons (mCon (.int 2)) (mCons (mCon (.str "keeper 2 1\nanswers no\nputs 0 0")) (mCons (mCon (.int 3)) mNil)))) mNil)))))
    (mSeq (mSet 0 (mOp2 dAddS (mVar 0) (mLst (mCons (mTup (mCons (mCon (.int 2)) (mCons (mOp2 dAddS (mVar 1) (mCon (.str "\nputs 9 0\ntakes 0 0"))) (mCons (mCon (.int 4)) mNil)))) (mCons (mTup (mCons (mCon (.int 3)) (mCons (mCon (.str "")) (mCons (mCon (.int 1)) mNil)))) (mCons (mTup (mCons (mCon (.int 3)) (mCons (mVar 3) (mCons (mCon (.int 7)) mNil)))) (mCons (mTup (mCons (mCon (.int 3)) (mCons (mOp2 dAddS (mVar 3) (mCon (.str "\n"))) (mCons (mCon (.int 7)) mNil)))) mNil)))))))
    (mSeq (mSet 0 (mOp2 dAddS (mVar 0) (mLst (mCons (mTup (mCons (mCon (.int 3)) (mCons (mOp2 dAddS (mVar 3) (mCon (.str "\nkeeper 0 1"))) (mCons (mCon (.int 7)) mNil)))) (mCons (mTup (mCons (mCon (.int 3)) (mCons (mOp2 dAddS (mVar 3) (mCon (.str "\nkeeper 1 1"))) (mCons (mCon (.int 8)) mNil)))) (mCons (mTup (mCons (mCon (.int 3)) (mCons (mOp2 dAddS (mVar 4) (mCon (.str "\nkeeper 1 1"))) (mCons (mCon (.int 13)) mNil)))) mNil))))))
    (mSeq (mSet 2 (mLc (mIter (mVar 0)) (tName 5) (mPure true) (mCall f__law_heard (mCons (mOp2 dIx (mVar 5) (mCon (.int 0))) (mCons (mOp2 dIx (mVar 5) (mCon (.int 1))) mNil))) [5]))
    (mSeq (mRet (mCall f__law_same (mCons (mVar 2) (mCons (mLc (mIter (mVar 0)) (tName 5) (mPure true) (mLst (mCons (mCon (.str "line")) (mCons (mOp2 dIx (mVar 5) (mCon (.int 2))) (mCons (mCon (.bl true)) mNil)))) [5]) mNil))))
    mNx)))))))))))))))))))))
def f__law_lines_right : FM := runDef N__law_lines_right.length m__law_lines_right
theorem sc__law_lines_right : FnScope N__law_lines_right ps__law_lines_right (defScope st__law_lines_right) := ⟨rfl, rfl, rfl, by decide +kernel, rfl, by decide +kernel, by decide +kernel⟩
abbrev st__law_unfit_right : Stmt := top 57
abbrev N__law_unfit_right : List Str := [(PySem.Str.ofString "rows_so"), (PySem.Str.ofString "wide"), (PySem.Str.ofString "got"), (PySem.Str.ofString "flip"), (PySem.Str.ofString "two"), (PySem.Str.ofString "own")]
abbrev ps__law_unfit_right : List Str := []
def m__law_unfit_right : MS := (mSeq (mPar [3, 4] (mCons (mCall f__law_flip_text mNil) (mCons (mCall f__law_two_text mNil) mNil)))
    (mSeq (mSet 0 (mLst (mCons (mTup (mCons (mCon (.int 0)) (mCons (mCon (.str "machine 1\nstate 1\nends")) mNil))) (mCons (mTup (mCons (mCon (.int 0)) (mCons (mCon (.str "machine 1\nstate 0\nends 1")) mNil))) (mCons (mTup (mCons (mCon (.int 0)) (mCons (mCon (.str "machine 2\nstate 0 1\nstate 0 2\nends 0")) mNil))) mNil)))))
    (mSeq (mSet 0 (mOp2 dAdd (mVar 0) (mLc (mIter (mTup (mCons (mCon (.str "take 0")) (mCons (mCon (.str "put 0 1\ntake 0")) (mCons (mCon (.str "put 2 1")) (mCons (mCon (.str "put 0 1\ntake 1\ntake 1")) (mCons (mCon (.str "take 2")) mNil))))))) (tName 5) (mPure true) (mTup (mCons (mCon (.int 1)) (mCons (mOp2 dAddS (mCon (.str "run\n")) (mVar 5)) mNil))) [5])))
    (mSeq (mSet 0 (mOp2 dAdd (mVar 0) (mLc (mIter (mTup (mCons (mCon (.str "take 1\nput 0 1")) mNil))) (tName 5) (mPure true) (mTup (mCons (mCon (.int 1)) (mCons (mOp2 dAddS (mCon (.str "run\n")) (mVar 5)) mNil))) [5])))
    (mSeq (mSet 0 (mOp2 dAdd (mVar 0) (mLst (mCons (mTup (mCons (mCon (.int 2)) (mCons (mOp1 (dRepl "puts 1 0" "puts 2 0") (mVar 3)) mNil))) (mCons (mTup (mCons (mCon (.int 2)) (mCons (mOp1 (dRepl "takes 1" "takes 2") (mVar 3)) mNil))) mNil)))))
    (mSeq (mSet 0 (mOp2 dAdd (mVar 0) (mLst (mCons (mTup (mCons (mCon (.int 2)) (mCons (mCon (.str "keeper 1 2\nanswers no\nputs 0 0\ntakes 0 1")) mNil))) mNil))))
    (mSeq (mSet 1 (mCon (.str "keeper 2 1\nanswers yes\nputs 0 0 0 0\ntakes 0 0")))
    (mSeq (mSet 0 (mOp2 dAdd (mVar 0) (mLst (mCons (mTup (mCons (mCon (.int 3)) (mCons (mOp2 dAddS (mOp2 dAddS (mVar 3) (mCon (.str "\n"))) (mVar 1)) mNil))) (mCons (mTup (mCons (mCon (.int 3)) (mCons (mOp2 dAddS (mOp2 dAddS (mVar 1) (mCon (.str "\n"))) (mVar 3)) mNil))) (mCons (mTup (mCons (mCon (.int 3)) (mCons (mOp2 dAddS (mOp2 dAddS (mVar 3) (mCon (.str "\n"))) (mOp1 (dRepl "puts 0 0" "puts 0 1") (mVar 3))) mNil))) mNil))))))
    (mSeq (mSet 0 (mOp2 dAdd (mVar 0) (mLst (mCons (mTup (mCons (mCon (.int 3)) (mCons (mOp1 (dRepl "puts 0 1" "puts 0 2") (mVar 4)) mNil))) (mCons (mTup (mCons (mCon (.int 3)) (mCons (mOp2 dAddS (mOp2 dAddS (mVar 3) (mCon (.str "\n"))) (mOp1 (dRepl "takes 1" "takes 2") (mVar 3))) mNil))) mNil)))))
    (mSeq (mSet 2 (mLc (mIter (mVar 0)) (tName 5) (mPure true) (mCall f__law_heard (mCons (mOp2 dIx (mVar 5) (mCon (.int 0))) (mCons (mOp2 dIx (mVar 5) (mCon (.int 1))) mNil))) [5]))
    (mSeq (mRet (mCall f__law_same (mCons (mVar 2) (mCons (mOp2 dMulW (mLst (mCons (mLst (mCons (mCon (.str "unfit")) (mCons (mCon (.bl true)) mNil))) mNil)) (mOpA dLenA (mCons (mVar 0) mNil))) mNil))))
    mNx)))))))))))
def f__law_unfit_right : FM := runDef N__law_unfit_right.length m__law_unfit_right
theorem sc__law_unfit_right : FnScope N__law_unfit_right ps__law_unfit_right (defScope st__law_unfit_right) := ⟨rfl, rfl, rfl, by decide +kernel, rfl, by decide +kernel, by decide +kernel⟩
abbrev st_law : Stmt := top 58
abbrev N_law : List Str := [(PySem.Str.ofString "script"), (PySem.Str.ofString "turn")]
abbrev ps_law : List Str := [(PySem.Str.ofString "script")]
def m_law_c : MS := (mSeq (mRet (mCallV 0 [((PySem.Str.ofString "_law_told_right"), f__law_told_right), ((PySem.Str.ofString "_law_lines_right"), f__law_lines_right), ((PySem.Str.ofString "_law_unfit_right"), f__law_unfit_right)] (mOp2 dIx (mLst (mCons (mCon (.gl (PySem.Str.ofString "_law_told_right"))) (mCons (mCon (.gl (PySem.Str.ofString "_law_lines_right"))) (mCons (mCon (.gl (PySem.Str.ofString "_law_unfit_right"))) mNil)))) (mVar 1)) mNil))
    mNx)
def m_law : MS := (mSeq (mIfS (mNot (mTruth (mCall (clF f__law_always_right) mNil))) (mSeq (mRet (mCon (.bl false)))
    mNx) mNx)
    (mSeq (mSet 1 (mCall f__law_take (mCons (mCall f__law_box (mCons (mCall f__law_cells (mCons (mVar 0) (mCons (mCon (.int 1)) mNil))) (mCons (mCon (.int 0)) mNil))) (mCons (mCon (.int 3)) mNil))))
    (clS m_law_c)))
def f_law : FM := runDef N_law.length m_law
theorem sc_law : FnScope N_law ps_law (defScope st_law) := ⟨rfl, rfl, rfl, by decide +kernel, rfl, by decide +kernel, by decide +kernel⟩
section
variable {P : Program} {w : World} {K : PySem.W.Frag} {mg : Str → Option Value} {base : Heap} {a_is_number : Addr} {a_are_numbers_from : Addr} {a_are_places : Addr} {a_is_set_of_places : Addr} {a_are_steps : Addr} {a_is_machine : Addr} {a_letters_in : Addr} {a_is_event : Addr} {a_is_run : Addr} {a_are_rows : Addr} {a_is_step : Addr} {a_are_puts : Addr} {a_are_takes : Addr} {a_is_keeper : Addr} {a_letters_of : Addr} {a_marks_of : Addr} {a_greatest_mark : Addr} {a_is_pair : Addr} {a_lines_of : Addr} {a_is_figures : Addr} {a_Reader___init__ : Addr} {a_Reader_is_done : Addr} {a_Reader_comes : Addr} {a_Reader_check : Addr} {a_Reader_behind : Addr} {a_Reader_counted : Addr} {a_Reader_counted_just : Addr} {a_Reader_end : Addr} {a_line_with : Addr} {a_machine_text : Addr} {a_run_text : Addr} {a_keeper_text : Addr} {a_pair_text : Addr} {a_machine_read : Addr} {a_event_read : Addr} {a_run_read : Addr} {a_keeper_lines_read : Addr} {a_keeper_read : Addr} {a_pair_read : Addr} {a__law_box : Addr} {a__law_take : Addr} {a__law_cells : Addr} {a__law_lists : Addr} {a__law_same : Addr} {a__law_even : Addr} {a__law_flip : Addr} {a__law_lead : Addr} {a__law_hear : Addr} {a__law_heard : Addr} {a__law_flip_text : Addr} {a__law_two_text : Addr} {a__law_always_right : Addr} {a__law_told_right : Addr} {a__law_lines_right : Addr} {a__law_unfit_right : Addr} {a_law : Addr} {a_BadLine : Addr} {a_Unfit : Addr} {a_Reader : Addr} {fd_is_number : FuncData} {fd_are_numbers_from : FuncData} {fd_are_places : FuncData} {fd_is_set_of_places : FuncData} {fd_are_steps : FuncData} {fd_is_machine : FuncData} {fd_letters_in : FuncData} {fd_is_event : FuncData} {fd_is_run : FuncData} {fd_are_rows : FuncData} {fd_is_step : FuncData} {fd_are_puts : FuncData} {fd_are_takes : FuncData} {fd_is_keeper : FuncData} {fd_letters_of : FuncData} {fd_marks_of : FuncData} {fd_greatest_mark : FuncData} {fd_is_pair : FuncData} {fd_lines_of : FuncData} {fd_is_figures : FuncData} {fd_Reader___init__ : FuncData} {fd_Reader_is_done : FuncData} {fd_Reader_comes : FuncData} {fd_Reader_check : FuncData} {fd_Reader_behind : FuncData} {fd_Reader_counted : FuncData} {fd_Reader_counted_just : FuncData} {fd_Reader_end : FuncData} {fd_line_with : FuncData} {fd_machine_text : FuncData} {fd_run_text : FuncData} {fd_keeper_text : FuncData} {fd_pair_text : FuncData} {fd_machine_read : FuncData} {fd_event_read : FuncData} {fd_run_read : FuncData} {fd_keeper_lines_read : FuncData} {fd_keeper_read : FuncData} {fd_pair_read : FuncData} {fd__law_box : FuncData} {fd__law_take : FuncData} {fd__law_cells : FuncData} {fd__law_lists : FuncData} {fd__law_same : FuncData} {fd__law_even : FuncData} {fd__law_flip : FuncData} {fd__law_lead : FuncData} {fd__law_hear : FuncData} {fd__law_heard : FuncData} {fd__law_flip_text : FuncData} {fd__law_two_text : FuncData} {fd__law_always_right : FuncData} {fd__law_told_right : FuncData} {fd__law_lines_right : FuncData} {fd__law_unfit_right : FuncData} {fd_law : FuncData}
section
variable (T : Txt P w K mg a_is_number a_are_numbers_from a_are_places a_is_set_of_places a_are_steps a_is_machine a_letters_in a_is_event a_is_run a_are_rows a_is_step a_are_puts a_are_takes a_is_keeper a_letters_of a_marks_of a_greatest_mark a_is_pair a_lines_of a_is_figures a_Reader___init__ a_Reader_is_done a_Reader_comes a_Reader_check a_Reader_behind a_Reader_counted a_Reader_counted_just a_Reader_end a_line_with a_machine_text a_run_text a_keeper_text a_pair_text a_machine_read a_event_read a_run_read a_keeper_lines_read a_keeper_read a_pair_read a__law_box a__law_take a__law_cells a__law_lists a__law_same a__law_even a__law_flip a__law_lead a__law_hear a__law_heard a__law_flip_text a__law_two_text a__law_always_right a__law_told_right a__law_lines_right a__law_unfit_right a_law a_BadLine a_Unfit a_Reader)
include T
theorem ok_is_number (F : Fun K (PySem.Str.ofString "is_number") (PySem.Str.ofString "is_number") st_is_number a_is_number fd_is_number) : FnOk P w K mg base (L2.CX P w) 1 a_is_number fd_is_number ps_is_number (spF ⟨w, K, mg⟩ 1 f_is_number) := by
  have sc := sc_is_number
  refine fn_ok F sc rfl (by decide) fun cdv A outer s H E hr => ?_
  exact (s_cons (s_ret (e_and (f_isi bt_isi rfl T.n_isinstance (a_cons (ev 0) (a_cons (e_ty (n := .int) rfl T.n_int bt_int) a_nil))) (e_one (e_not (f_isi bt_isi rfl T.n_isinstance (a_cons (ev 0) (a_cons (e_ty (n := .bool) rfl T.n_bool bt_bool) a_nil)))))))
    s_nil)
theorem ok_are_numbers_from (F : Fun K (PySem.Str.ofString "are_numbers_from") (PySem.Str.ofString "are_numbers_from") st_are_numbers_from a_are_numbers_from fd_are_numbers_from) (F_is_number : FnOk P w K mg base (L2.CX P w) 1 a_is_number fd_is_number ps_is_number (spF ⟨w, K, mg⟩ 1 f_is_number)) (B_is_number : Binds K fd_is_number ps_is_number []) : FnOk P w K mg base (L2.CX P w) 2 a_are_numbers_from fd_are_numbers_from ps_are_numbers_from (spF ⟨w, K, mg⟩ 2 f_are_numbers_from) := by
  have sc := sc_are_numbers_from
  refine fn_ok F sc rfl (by decide) fun cdv A outer s H E hr => ?_
  exact (s_cons (s_ret (e_and (f_isi bt_isi rfl T.n_isinstance (a_cons (ev 0) (a_cons (e_ty (n := .tuple) rfl T.n_tuple bt_tuple) a_nil))) (e_one (f_all rfl bt_all rfl T.n_all (a_cons (e_lc (own := [((PySem.Str.ofString "own"), 2)]) rfl sc.nd (blkOk_by (by first | rfl | kernel_rfl | with_unfolding_all rfl)) rfl (i_any (ev 0)) (fun s H C cl fp => (g_name (i := 2) sc.nd rfl (by first | exact .inl rfl | exact .inr rfl))) (fun s H C cl fp => ts_nil) (fun s H C cl fp => (e_and (e_call F_is_number (hr.mono (by first | decide | omega)) T.g_is_number T.k_is_number B_is_number tkF (len_cons len_nil) rfl (a_cons (ev 2) a_nil)) (e_one (e_cmpW w_ge (by with_unfolding_all rfl) (ev 2) (ev 1)))))) a_nil)))))
    s_nil)
theorem ok_are_places (F : Fun K (PySem.Str.ofString "are_places") (PySem.Str.ofString "are_places") st_are_places a_are_places fd_are_places) (F_are_numbers_from : FnOk P w K mg base (L2.CX P w) 2 a_are_numbers_from fd_are_numbers_from ps_are_numbers_from (spF ⟨w, K, mg⟩ 2 f_are_numbers_from)) (B_are_numbers_from : Binds K fd_are_numbers_from ps_are_numbers_from []) : FnOk P w K mg base (L2.CX P w) 3 a_are_places fd_are_places ps_are_places (spF ⟨w, K, mg⟩ 2 f_are_places) := by
  have sc := sc_are_places
  refine fn_ok F sc rfl (by decide) fun cdv A outer s H E hr => ?_
  exact (s_cons (s_ret (e_and (e_call F_are_numbers_from (hr.mono (by first | decide | omega)) T.g_are_numbers_from T.k_are_numbers_from B_are_numbers_from tkD (len_cons (len_cons len_nil)) rfl (a_cons (ev 0) (a_cons e_int a_nil))) (e_one (f_all rfl bt_all rfl T.n_all (a_cons (e_lc (own := [((PySem.Str.ofString "own"), 2)]) rfl sc.nd (blkOk_by (by first | rfl | kernel_rfl | with_unfolding_all rfl)) rfl (i_any (ev 0)) (fun s H C cl fp => (g_name (i := 2) sc.nd rfl (by first | exact .inl rfl | exact .inr rfl))) (fun s H C cl fp => ts_nil) (fun s H C cl fp => (e_cmpW w_lt (by with_unfolding_all rfl) (ev 2) (ev 1)))) a_nil)))))
    s_nil)
theorem ok_is_set_of_places (F : Fun K (PySem.Str.ofString "is_set_of_places") (PySem.Str.ofString "is_set_of_places") st_is_set_of_places a_is_set_of_places fd_is_set_of_places) (F_are_places : FnOk P w K mg base (L2.CX P w) 3 a_are_places fd_are_places ps_are_places (spF ⟨w, K, mg⟩ 2 f_are_places)) (B_are_places : Binds K fd_are_places ps_are_places []) : FnOk P w K mg base (L2.CX P w) 4 a_is_set_of_places fd_is_set_of_places ps_is_set_of_places (spF ⟨w, K, mg⟩ 2 f_is_set_of_places) := by
  have sc := sc_is_set_of_places
  refine fn_ok F sc rfl (by decide) fun cdv A outer s H E hr => ?_
  exact (s_cons (s_ret (e_and (e_call F_are_places (hr.mono (by first | decide | omega)) T.g_are_places T.k_are_places B_are_places tkD (len_cons (len_cons len_nil)) rfl (a_cons (ev 0) (a_cons (ev 1) a_nil))) (e_one (f_all rfl bt_all rfl T.n_all (a_cons (e_lc (own := [((PySem.Str.ofString "low"), 2), ((PySem.Str.ofString "high"), 3)]) rfl sc.nd (blkOk_by (by first | rfl | kernel_rfl | with_unfolding_all rfl)) rfl (i_zip rfl T.n_zip (a_cons (ev 0) (a_cons (e_slice (ev 0) (o_some e_int) o_none) a_nil))) (fun s H C cl fp => (g_tup rfl (gs_c (g_name (i := 2) sc.nd rfl (by first | exact .inl rfl | exact .inr rfl)) (gs_c (g_name (i := 3) sc.nd rfl (by first | exact .inl rfl | exact .inr rfl)) gs_nil)))) (fun s H C cl fp => ts_nil) (fun s H C cl fp => (e_cmpW w_lt (by with_unfolding_all rfl) (ev 2) (ev 3)))) a_nil)))))
    s_nil)
theorem ok_are_steps (F : Fun K (PySem.Str.ofString "are_steps") (PySem.Str.ofString "are_steps") st_are_steps a_are_steps fd_are_steps) (F_are_places : FnOk P w K mg base (L2.CX P w) 3 a_are_places fd_are_places ps_are_places (spF ⟨w, K, mg⟩ 2 f_are_places)) (B_are_places : Binds K fd_are_places ps_are_places []) : FnOk P w K mg base (L2.CX P w) 4 a_are_steps fd_are_steps ps_are_steps (spF ⟨w, K, mg⟩ 1 f_are_steps) := by
  have sc := sc_are_steps
  refine fn_ok F sc rfl (by decide) fun cdv A outer s H E hr => ?_
  exact (s_cons (s_if (t_pw (tw_or (t_not (t_val (f_isi bt_isi rfl T.n_isinstance (a_cons (ev 0) (a_cons (e_ty (n := .tuple) rfl T.n_tuple bt_tuple) a_nil))))) (tw_or1 (t_cmpW (w_eqA hr) (by with_unfolding_all rfl) (f_len rfl T.n_len (a_cons (ev 0) a_nil)) e_int)))) (s_cons (s_ret e_bl)
    s_nil) s_nil)
    (s_cons (s_if (t_not (t_val (f_all rfl bt_all rfl T.n_all (a_cons (e_lc (own := [((PySem.Str.ofString "row"), 1)]) rfl sc.nd (blkOk_by (by first | rfl | kernel_rfl | with_unfolding_all rfl)) rfl (i_any (ev 0)) (fun s H C cl fp => (g_name (i := 1) sc.nd rfl (by first | exact .inl rfl | exact .inr rfl))) (fun s H C cl fp => ts_nil) (fun s H C cl fp => (e_call F_are_places (hr.mono (by first | decide | omega)) T.g_are_places T.k_are_places B_are_places tkF (len_cons (len_cons len_nil)) rfl (a_cons (ev 1) (a_cons (f_len rfl T.n_len (a_cons (ev 0) a_nil)) a_nil))))) a_nil)))) (s_cons (s_ret e_bl)
    s_nil) s_nil)
    (s_cons (s_ret (e_and (e_cmpW w_gt (by with_unfolding_all rfl) (f_len rfl T.n_len (a_cons (x_ix hr (ev 0) e_int) a_nil)) e_int) (e_one (f_all rfl bt_all rfl T.n_all (a_cons (e_lc (own := [((PySem.Str.ofString "row"), 1)]) rfl sc.nd (blkOk_by (by first | rfl | kernel_rfl | with_unfolding_all rfl)) rfl (i_any (ev 0)) (fun s H C cl fp => (g_name (i := 1) sc.nd rfl (by first | exact .inl rfl | exact .inr rfl))) (fun s H C cl fp => ts_nil) (fun s H C cl fp => (e_cmpW (w_eqA hr) (by with_unfolding_all rfl) (f_len rfl T.n_len (a_cons (ev 1) a_nil)) (f_len rfl T.n_len (a_cons (x_ix hr (ev 0) e_int) a_nil))))) a_nil)))))
    s_nil)))
theorem ok_is_machine (F : Fun K (PySem.Str.ofString "is_machine") (PySem.Str.ofString "is_machine") st_is_machine a_is_machine fd_is_machine) (F_are_steps : FnOk P w K mg base (L2.CX P w) 4 a_are_steps fd_are_steps ps_are_steps (spF ⟨w, K, mg⟩ 1 f_are_steps)) (B_are_steps : Binds K fd_are_steps ps_are_steps []) (F_is_set_of_places : FnOk P w K mg base (L2.CX P w) 4 a_is_set_of_places fd_is_set_of_places ps_is_set_of_places (spF ⟨w, K, mg⟩ 2 f_is_set_of_places)) (B_is_set_of_places : Binds K fd_is_set_of_places ps_is_set_of_places []) : FnOk P w K mg base (L2.CX P w) 5 a_is_machine fd_is_machine ps_is_machine (spF ⟨w, K, mg⟩ 1 f_is_machine) := by
  have sc := sc_is_machine
  refine fn_ok F sc rfl (by decide) fun cdv A outer s H E hr => ?_
  exact (s_cons (s_if (t_pw (tw_or (t_not (t_val (f_isi bt_isi rfl T.n_isinstance (a_cons (ev 0) (a_cons (e_ty (n := .tuple) rfl T.n_tuple bt_tuple) a_nil))))) (tw_or1 (t_cmpW (w_neA hr) (by with_unfolding_all rfl) (f_len rfl T.n_len (a_cons (ev 0) a_nil)) e_int)))) (s_cons (s_ret e_bl)
    s_nil) s_nil)
    (s_cons (s_asg (ev 0) (g_tup rfl (gs_c (g_name (i := 1) sc.nd rfl (by first | exact .inl rfl | exact .inr rfl)) (gs_c (g_name (i := 2) sc.nd rfl (by first | exact .inl rfl | exact .inr rfl)) gs_nil))))
    (s_cons (s_ret (e_and (e_call F_are_steps (hr.mono (by first | decide | omega)) T.g_are_steps T.k_are_steps B_are_steps tkD (len_cons len_nil) rfl (a_cons (ev 1) a_nil)) (e_one (e_call F_is_set_of_places (hr.mono (by first | decide | omega)) T.g_is_set_of_places T.k_is_set_of_places B_is_set_of_places tkD (len_cons (len_cons len_nil)) rfl (a_cons (ev 2) (a_cons (f_len rfl T.n_len (a_cons (ev 1) a_nil)) a_nil))))))
    s_nil)))
theorem ok_letters_in (F : Fun K (PySem.Str.ofString "letters_in") (PySem.Str.ofString "letters_in") st_letters_in a_letters_in fd_letters_in) : FnOk P w K mg base (L2.CX P w) 1 a_letters_in fd_letters_in ps_letters_in (spF ⟨w, K, mg⟩ 1 f_letters_in) := by
  have sc := sc_letters_in
  refine fn_ok F sc rfl (by decide) fun cdv A outer s H E hr => ?_
  exact (s_cons (s_ret (f_len rfl T.n_len (a_cons (x_ix hr (x_ix hr (ev 0) e_int) e_int) a_nil)))
    s_nil)
theorem ok_is_event (F : Fun K (PySem.Str.ofString "is_event") (PySem.Str.ofString "is_event") st_is_event a_is_event fd_is_event) (F_are_numbers_from : FnOk P w K mg base (L2.CX P w) 2 a_are_numbers_from fd_are_numbers_from ps_are_numbers_from (spF ⟨w, K, mg⟩ 2 f_are_numbers_from)) (B_are_numbers_from : Binds K fd_are_numbers_from ps_are_numbers_from []) : FnOk P w K mg base (L2.CX P w) 3 a_is_event fd_is_event ps_is_event (spF ⟨w, K, mg⟩ 1 f_is_event) := by
  have sc := sc_is_event
  refine fn_ok F sc rfl (by decide) fun cdv A outer s H E hr => ?_
  exact (s_cons (s_ret (e_and (e_call F_are_numbers_from (hr.mono (by first | decide | omega)) T.g_are_numbers_from T.k_are_numbers_from B_are_numbers_from tkD (len_cons (len_cons len_nil)) rfl (a_cons (ev 0) (a_cons e_int a_nil))) (e_and (e_cmpW (w_eqA hr) (by with_unfolding_all rfl) (f_len rfl T.n_len (a_cons (ev 0) a_nil)) e_int) (e_one (e_cmpW w_lt (by with_unfolding_all rfl) (x_ix hr (ev 0) e_int) e_int)))))
    s_nil)
theorem ok_is_run (F : Fun K (PySem.Str.ofString "is_run") (PySem.Str.ofString "is_run") st_is_run a_is_run fd_is_run) (F_is_event : FnOk P w K mg base (L2.CX P w) 3 a_is_event fd_is_event ps_is_event (spF ⟨w, K, mg⟩ 1 f_is_event)) (B_is_event : Binds K fd_is_event ps_is_event []) : FnOk P w K mg base (L2.CX P w) 4 a_is_run fd_is_run ps_is_run (spF ⟨w, K, mg⟩ 1 f_is_run) := by
  have sc := sc_is_run
  refine fn_ok F sc rfl (by decide) fun cdv A outer s H E hr => ?_
  exact (s_cons (s_if (t_pw (tw_or (t_not (t_val (f_isi bt_isi rfl T.n_isinstance (a_cons (ev 0) (a_cons (e_ty (n := .tuple) rfl T.n_tuple bt_tuple) a_nil))))) (tw_or1 (t_not (t_val (f_all rfl bt_all rfl T.n_all (a_cons (e_lc (own := [((PySem.Str.ofString "own"), 4)]) rfl sc.nd (blkOk_by (by first | rfl | kernel_rfl | with_unfolding_all rfl)) rfl (i_any (ev 0)) (fun s H C cl fp => (g_name (i := 4) sc.nd rfl (by first | exact .inl rfl | exact .inr rfl))) (fun s H C cl fp => ts_nil) (fun s H C cl fp => (e_call F_is_event (hr.mono (by first | decide | omega)) T.g_is_event T.k_is_event B_is_event tkF (len_cons len_nil) rfl (a_cons (ev 4) a_nil)))) a_nil))))))) (s_cons (s_ret e_bl)
    s_nil) s_nil)
    (s_cons (s_set (i := 1) sc.nd rfl (by first | exact .inl rfl | exact .inr rfl) (e_lst (a_cons e_int (a_cons e_int a_nil))))
    (s_cons (s_for poD rfl (i_any (ev 0)) (g_tup rfl (gs_c (g_name (i := 2) sc.nd rfl (by first | exact .inl rfl | exact .inr rfl)) (gs_c (g_name (i := 3) sc.nd rfl (by first | exact .inl rfl | exact .inr rfl)) gs_nil))) (s_cons (s_if (t_cmpW w_gt (by with_unfolding_all rfl) (ev 3) e_int) (s_cons (s_augS (hu_of hr) (ev 1) (b_sub e_int (ev 2)) e_int L2.ip_add)
    s_nil) (s_cons (s_if (t_cmpW w_gt (by with_unfolding_all rfl) (x_ix hr (ev 1) (ev 2)) e_int) (s_cons (s_augS (hu_of hr) (ev 1) (ev 2) e_int L2.ip_sub)
    s_nil) (s_cons (s_ret e_bl)
    s_nil))
    s_nil))
    s_nil))
    (s_cons (s_ret e_bl)
    s_nil))))
theorem ok_are_rows (F : Fun K (PySem.Str.ofString "are_rows") (PySem.Str.ofString "are_rows") st_are_rows a_are_rows fd_are_rows) : FnOk P w K mg base (L2.CX P w) 1 a_are_rows fd_are_rows ps_are_rows (spF ⟨w, K, mg⟩ 2 f_are_rows) := by
  have sc := sc_are_rows
  refine fn_ok F sc rfl (by decide) fun cdv A outer s H E hr => ?_
  exact (s_cons (s_if (t_pw (tw_or (t_not (t_val (f_isi bt_isi rfl T.n_isinstance (a_cons (ev 0) (a_cons (e_ty (n := .tuple) rfl T.n_tuple bt_tuple) a_nil))))) (tw_or1 (t_cmpW (w_neA hr) (by with_unfolding_all rfl) (f_len rfl T.n_len (a_cons (ev 0) a_nil)) (ev 1))))) (s_cons (s_ret e_bl)
    s_nil) s_nil)
    (s_cons (s_ret (e_and (f_all rfl bt_all rfl T.n_all (a_cons (e_lc (own := [((PySem.Str.ofString "row"), 2)]) rfl sc.nd (blkOk_by (by first | rfl | kernel_rfl | with_unfolding_all rfl)) rfl (i_any (ev 0)) (fun s H C cl fp => (g_name (i := 2) sc.nd rfl (by first | exact .inl rfl | exact .inr rfl))) (fun s H C cl fp => ts_nil) (fun s H C cl fp => (e_and (f_isi bt_isi rfl T.n_isinstance (a_cons (ev 2) (a_cons (e_ty (n := .tuple) rfl T.n_tuple bt_tuple) a_nil))) (e_one (e_cmpW w_gt (by with_unfolding_all rfl) (f_len rfl T.n_len (a_cons (ev 2) a_nil)) e_int))))) a_nil)) (e_one (e_cmpW (w_eqA hr) (by with_unfolding_all rfl) (f_lenSc PySem.boot_len rfl T.n_len (e_scU (own := [((PySem.Str.ofString "row"), 2)]) rfl sc.nd (blkOk_by (by first | rfl | kernel_rfl | with_unfolding_all rfl)) rfl (i_any (ev 0)) (fun s H C cl fp => (g_name (i := 2) sc.nd rfl (by first | exact .inl rfl | exact .inr rfl))) (fun s H C cl fp => ts_nil) (fun s H C cl fp => (f_len rfl T.n_len (a_cons (ev 2) a_nil))))) e_int))))
    s_nil))
theorem ok_is_step (F : Fun K (PySem.Str.ofString "is_step") (PySem.Str.ofString "is_step") st_is_step a_is_step fd_is_step) (F_are_numbers_from : FnOk P w K mg base (L2.CX P w) 2 a_are_numbers_from fd_are_numbers_from ps_are_numbers_from (spF ⟨w, K, mg⟩ 2 f_are_numbers_from)) (B_are_numbers_from : Binds K fd_are_numbers_from ps_are_numbers_from []) : FnOk P w K mg base (L2.CX P w) 3 a_is_step fd_is_step ps_is_step (spF ⟨w, K, mg⟩ 2 f_is_step) := by
  have sc := sc_is_step
  refine fn_ok F sc rfl (by decide) fun cdv A outer s H E hr => ?_
  exact (s_cons (s_ret (e_and (e_call F_are_numbers_from (hr.mono (by first | decide | omega)) T.g_are_numbers_from T.k_are_numbers_from B_are_numbers_from tkD (len_cons (len_cons len_nil)) rfl (a_cons (ev 0) (a_cons e_int a_nil))) (e_and (e_cmpW (w_eqA hr) (by with_unfolding_all rfl) (f_len rfl T.n_len (a_cons (ev 0) a_nil)) e_int) (e_one (e_cmpW w_lt (by with_unfolding_all rfl) (x_ix hr (ev 0) e_int) (ev 1))))))
    s_nil)
theorem ok_are_puts (F : Fun K (PySem.Str.ofString "are_puts") (PySem.Str.ofString "are_puts") st_are_puts a_are_puts fd_are_puts) (F_are_rows : FnOk P w K mg base (L2.CX P w) 1 a_are_rows fd_are_rows ps_are_rows (spF ⟨w, K, mg⟩ 2 f_are_rows)) (B_are_rows : Binds K fd_are_rows ps_are_rows []) (F_is_step : FnOk P w K mg base (L2.CX P w) 3 a_is_step fd_is_step ps_is_step (spF ⟨w, K, mg⟩ 2 f_is_step)) (B_is_step : Binds K fd_is_step ps_is_step []) : FnOk P w K mg base (L2.CX P w) 4 a_are_puts fd_are_puts ps_are_puts (spF ⟨w, K, mg⟩ 2 f_are_puts) := by
  have sc := sc_are_puts
  refine fn_ok F sc rfl (by decide) fun cdv A outer s H E hr => ?_
  exact (s_cons (s_ret (e_and (e_call F_are_rows (hr.mono (by first | decide | omega)) T.g_are_rows T.k_are_rows B_are_rows tkD (len_cons (len_cons len_nil)) rfl (a_cons (ev 0) (a_cons (ev 1) a_nil))) (e_one (f_all rfl bt_all rfl T.n_all (a_cons (e_lc2 (own := [((PySem.Str.ofString "row"), 2), ((PySem.Str.ofString "step"), 3)]) (vs0 := [2]) rfl sc.nd (blkOk_by (by first | rfl | kernel_rfl | with_unfolding_all rfl)) rfl (by decide) (by decide) (i_any (ev 0)) (fun s H C cl fp => (g_name (i := 2) sc.nd rfl (by first | exact .inl rfl | exact .inr rfl))) (fun s H C cl fp => ts_nil) (fun s H C cl fp => (i_any (ev 2))) (fun s H C cl fp => (g_name (i := 3) sc.nd rfl (by first | exact .inl rfl | exact .inr rfl))) (fun s H C cl fp => ts_nil) (fun s H C cl fp => (e_call F_is_step (hr.mono (by first | decide | omega)) T.g_is_step T.k_is_step B_is_step tkF (len_cons (len_cons len_nil)) rfl (a_cons (ev 3) (a_cons (ev 1) a_nil))))) a_nil)))))
    s_nil)
theorem ok_are_takes (F : Fun K (PySem.Str.ofString "are_takes") (PySem.Str.ofString "are_takes") st_are_takes a_are_takes fd_are_takes) (F_are_rows : FnOk P w K mg base (L2.CX P w) 1 a_are_rows fd_are_rows ps_are_rows (spF ⟨w, K, mg⟩ 2 f_are_rows)) (B_are_rows : Binds K fd_are_rows ps_are_rows []) (F_are_places : FnOk P w K mg base (L2.CX P w) 3 a_are_places fd_are_places ps_are_places (spF ⟨w, K, mg⟩ 2 f_are_places)) (B_are_places : Binds K fd_are_places ps_are_places []) : FnOk P w K mg base (L2.CX P w) 4 a_are_takes fd_are_takes ps_are_takes (spF ⟨w, K, mg⟩ 2 f_are_takes) := by
  have sc := sc_are_takes
  refine fn_ok F sc rfl (by decide) fun cdv A outer s H E hr => ?_
  exact (s_cons (s_if (t_not (t_val (e_call F_are_rows (hr.mono (by first | decide | omega)) T.g_are_rows T.k_are_rows B_are_rows tkD (len_cons (len_cons len_nil)) rfl (a_cons (ev 0) (a_cons (ev 1) a_nil))))) (s_cons (s_ret e_bl)
    s_nil) s_nil)
    (s_cons (s_set (i := 2) sc.nd rfl (by first | exact .inl rfl | exact .inr rfl) (f_tuple bt_tuple rfl T.n_tuple (a_cons (e_lc2 (own := [((PySem.Str.ofString "row"), 3), ((PySem.Str.ofString "own"), 4)]) (vs0 := [3]) rfl sc.nd (blkOk_by (by first | rfl | kernel_rfl | with_unfolding_all rfl)) rfl (by decide) (by decide) (i_any (ev 0)) (fun s H C cl fp => (g_name (i := 3) sc.nd rfl (by first | exact .inl rfl | exact .inr rfl))) (fun s H C cl fp => ts_nil) (fun s H C cl fp => (i_any (ev 3))) (fun s H C cl fp => (g_name (i := 4) sc.nd rfl (by first | exact .inl rfl | exact .inr rfl))) (fun s H C cl fp => ts_nil) (fun s H C cl fp => (ev 4))) a_nil)))
    (s_cons (s_ret (e_and (e_call F_are_rows (hr.mono (by first | decide | omega)) T.g_are_rows T.k_are_rows B_are_rows tkD (len_cons (len_cons len_nil)) rfl (a_cons (ev 2) (a_cons (f_len rfl T.n_len (a_cons (ev 2) a_nil)) a_nil))) (e_one (f_all rfl bt_all rfl T.n_all (a_cons (e_lc (own := [((PySem.Str.ofString "own"), 4)]) rfl sc.nd (blkOk_by (by first | rfl | kernel_rfl | with_unfolding_all rfl)) rfl (i_any (ev 2)) (fun s H C cl fp => (g_name (i := 4) sc.nd rfl (by first | exact .inl rfl | exact .inr rfl))) (fun s H C cl fp => ts_nil) (fun s H C cl fp => (e_call F_are_places (hr.mono (by first | decide | omega)) T.g_are_places T.k_are_places B_are_places tkF (len_cons (len_cons len_nil)) rfl (a_cons (ev 4) (a_cons (ev 1) a_nil))))) a_nil)))))
    s_nil)))
theorem ok_is_keeper (F : Fun K (PySem.Str.ofString "is_keeper") (PySem.Str.ofString "is_keeper") st_is_keeper a_is_keeper fd_is_keeper) (F_are_puts : FnOk P w K mg base (L2.CX P w) 4 a_are_puts fd_are_puts ps_are_puts (spF ⟨w, K, mg⟩ 2 f_are_puts)) (B_are_puts : Binds K fd_are_puts ps_are_puts []) (F_are_takes : FnOk P w K mg base (L2.CX P w) 4 a_are_takes fd_are_takes ps_are_takes (spF ⟨w, K, mg⟩ 2 f_are_takes)) (B_are_takes : Binds K fd_are_takes ps_are_takes []) : FnOk P w K mg base (L2.CX P w) 5 a_is_keeper fd_is_keeper ps_is_keeper (spF ⟨w, K, mg⟩ 1 f_is_keeper) := by
  have sc := sc_is_keeper
  refine fn_ok F sc rfl (by decide) fun cdv A outer s H E hr => ?_
  exact (s_cons (s_if (t_pw (tw_or (t_not (t_val (f_isi bt_isi rfl T.n_isinstance (a_cons (ev 0) (a_cons (e_ty (n := .tuple) rfl T.n_tuple bt_tuple) a_nil))))) (tw_or1 (t_cmpW (w_neA hr) (by with_unfolding_all rfl) (f_len rfl T.n_len (a_cons (ev 0) a_nil)) e_int)))) (s_cons (s_ret e_bl)
    s_nil) s_nil)
    (s_cons (s_asg (ev 0) (g_tup rfl (gs_c (g_name (i := 1) sc.nd rfl (by first | exact .inl rfl | exact .inr rfl)) (gs_c (g_name (i := 2) sc.nd rfl (by first | exact .inl rfl | exact .inr rfl)) (gs_c (g_name (i := 3) sc.nd rfl (by first | exact .inl rfl | exact .inr rfl)) gs_nil)))))
    (s_cons (s_if (t_pw (tw_or (t_not (t_val (f_isi bt_isi rfl T.n_isinstance (a_cons (ev 1) (a_cons (e_ty (n := .tuple) rfl T.n_tuple bt_tuple) a_nil))))) (tw_or (t_cmpW (w_eqA hr) (by with_unfolding_all rfl) (f_len rfl T.n_len (a_cons (ev 1) a_nil)) e_int) (tw_or1 (t_not (t_val (f_all rfl bt_all rfl T.n_all (a_cons (e_lc (own := [((PySem.Str.ofString "own"), 4)]) rfl sc.nd (blkOk_by (by first | rfl | kernel_rfl | with_unfolding_all rfl)) rfl (i_any (ev 1)) (fun s H C cl fp => (g_name (i := 4) sc.nd rfl (by first | exact .inl rfl | exact .inr rfl))) (fun s H C cl fp => ts_nil) (fun s H C cl fp => (f_isi bt_isi rfl T.n_isinstance (a_cons (ev 4) (a_cons (e_ty (n := .bool) rfl T.n_bool bt_bool) a_nil))))) a_nil)))))))) (s_cons (s_ret e_bl)
    s_nil) s_nil)
    (s_cons (s_ret (e_and (e_call F_are_puts (hr.mono (by first | decide | omega)) T.g_are_puts T.k_are_puts B_are_puts tkD (len_cons (len_cons len_nil)) rfl (a_cons (ev 2) (a_cons (f_len rfl T.n_len (a_cons (ev 1) a_nil)) a_nil))) (e_and (e_call F_are_takes (hr.mono (by first | decide | omega)) T.g_are_takes T.k_are_takes B_are_takes tkD (len_cons (len_cons len_nil)) rfl (a_cons (ev 3) (a_cons (f_len rfl T.n_len (a_cons (ev 1) a_nil)) a_nil))) (e_one (e_cmpW (w_eqA hr) (by with_unfolding_all rfl) (f_len rfl T.n_len (a_cons (x_ix hr (ev 2) e_int) a_nil)) (f_len rfl T.n_len (a_cons (x_ix hr (ev 3) e_int) a_nil)))))))
    s_nil))))
theorem ok_letters_of (F : Fun K (PySem.Str.ofString "letters_of") (PySem.Str.ofString "letters_of") st_letters_of a_letters_of fd_letters_of) : FnOk P w K mg base (L2.CX P w) 1 a_letters_of fd_letters_of ps_letters_of (spF ⟨w, K, mg⟩ 1 f_letters_of) := by
  have sc := sc_letters_of
  refine fn_ok F sc rfl (by decide) fun cdv A outer s H E hr => ?_
  exact (s_cons (s_ret (f_len rfl T.n_len (a_cons (x_ix hr (x_ix hr (ev 0) e_int) e_int) a_nil)))
    s_nil)
theorem ok_marks_of (F : Fun K (PySem.Str.ofString "marks_of") (PySem.Str.ofString "marks_of") st_marks_of a_marks_of fd_marks_of) : FnOk P w K mg base (L2.CX P w) 1 a_marks_of fd_marks_of ps_marks_of (spF ⟨w, K, mg⟩ 1 f_marks_of) := by
  have sc := sc_marks_of
  refine fn_ok F sc rfl (by decide) fun cdv A outer s H E hr => ?_
  exact (s_cons (s_ret (f_len rfl T.n_len (a_cons (x_ix hr (x_ix hr (x_ix hr (ev 0) e_int) e_int) e_int) a_nil)))
    s_nil)
theorem ok_greatest_mark (F : Fun K (PySem.Str.ofString "greatest_mark") (PySem.Str.ofString "greatest_mark") st_greatest_mark a_greatest_mark fd_greatest_mark) : FnOk P w K mg base (L2.CX P w) 1 a_greatest_mark fd_greatest_mark ps_greatest_mark (spF ⟨w, K, mg⟩ 1 f_greatest_mark) := by
  have sc := sc_greatest_mark
  refine fn_ok F sc rfl (by decide) fun cdv A outer s H E hr => ?_
  exact (s_cons (s_ret (f_max rfl rfl T.n_max (a_cons (e_lc2 (own := [((PySem.Str.ofString "row"), 1), ((PySem.Str.ofString "_"), 2), ((PySem.Str.ofString "mark"), 3)]) (vs0 := [1]) rfl sc.nd (blkOk_by (by first | rfl | kernel_rfl | with_unfolding_all rfl)) rfl (by decide) (by decide) (i_any (x_ix hr (ev 0) e_int)) (fun s H C cl fp => (g_name (i := 1) sc.nd rfl (by first | exact .inl rfl | exact .inr rfl))) (fun s H C cl fp => ts_nil) (fun s H C cl fp => (i_any (ev 1))) (fun s H C cl fp => (g_tup rfl (gs_c (g_name (i := 2) sc.nd rfl (by first | exact .inl rfl | exact .inr rfl)) (gs_c (g_name (i := 3) sc.nd rfl (by first | exact .inl rfl | exact .inr rfl)) gs_nil)))) (fun s H C cl fp => ts_nil) (fun s H C cl fp => (ev 3))) a_nil)))
    s_nil)
theorem ok_is_pair (F : Fun K (PySem.Str.ofString "is_pair") (PySem.Str.ofString "is_pair") st_is_pair a_is_pair fd_is_pair) (F_is_keeper : FnOk P w K mg base (L2.CX P w) 5 a_is_keeper fd_is_keeper ps_is_keeper (spF ⟨w, K, mg⟩ 1 f_is_keeper)) (B_is_keeper : Binds K fd_is_keeper ps_is_keeper []) (F_letters_of : FnOk P w K mg base (L2.CX P w) 1 a_letters_of fd_letters_of ps_letters_of (spF ⟨w, K, mg⟩ 1 f_letters_of)) (B_letters_of : Binds K fd_letters_of ps_letters_of []) (F_greatest_mark : FnOk P w K mg base (L2.CX P w) 1 a_greatest_mark fd_greatest_mark ps_greatest_mark (spF ⟨w, K, mg⟩ 1 f_greatest_mark)) (B_greatest_mark : Binds K fd_greatest_mark ps_greatest_mark []) (F_marks_of : FnOk P w K mg base (L2.CX P w) 1 a_marks_of fd_marks_of ps_marks_of (spF ⟨w, K, mg⟩ 1 f_marks_of)) (B_marks_of : Binds K fd_marks_of ps_marks_of []) : FnOk P w K mg base (L2.CX P w) 6 a_is_pair fd_is_pair ps_is_pair (spF ⟨w, K, mg⟩ 1 f_is_pair) := by
  have sc := sc_is_pair
  refine fn_ok F sc rfl (by decide) fun cdv A outer s H E hr => ?_
  exact (s_cons (s_if (t_pw (tw_or (t_not (t_val (f_isi bt_isi rfl T.n_isinstance (a_cons (ev 0) (a_cons (e_ty (n := .tuple) rfl T.n_tuple bt_tuple) a_nil))))) (tw_or (t_cmpW (w_neA hr) (by with_unfolding_all rfl) (f_len rfl T.n_len (a_cons (ev 0) a_nil)) e_int) (tw_or1 (t_not (t_val (f_all rfl bt_all rfl T.n_all (a_cons (e_lc (own := [((PySem.Str.ofString "own"), 3)]) rfl sc.nd (blkOk_by (by first | rfl | kernel_rfl | with_unfolding_all rfl)) rfl (i_any (ev 0)) (fun s H C cl fp => (g_name (i := 3) sc.nd rfl (by first | exact .inl rfl | exact .inr rfl))) (fun s H C cl fp => ts_nil) (fun s H C cl fp => (e_call F_is_keeper (hr.mono (by first | decide | omega)) T.g_is_keeper T.k_is_keeper B_is_keeper tkF (len_cons len_nil) rfl (a_cons (ev 3) a_nil)))) a_nil)))))))) (s_cons (s_ret e_bl)
    s_nil) s_nil)
    (s_cons (s_asg (ev 0) (g_tup rfl (gs_c (g_name (i := 1) sc.nd rfl (by first | exact .inl rfl | exact .inr rfl)) (gs_c (g_name (i := 2) sc.nd rfl (by first | exact .inl rfl | exact .inr rfl)) gs_nil))))
    (s_cons (s_if (t_cmpW (w_neA hr) (by with_unfolding_all rfl) (e_call F_letters_of (hr.mono (by first | decide | omega)) T.g_letters_of T.k_letters_of B_letters_of tkD (len_cons len_nil) rfl (a_cons (ev 1) a_nil)) (e_call F_letters_of (hr.mono (by first | decide | omega)) T.g_letters_of T.k_letters_of B_letters_of tkD (len_cons len_nil) rfl (a_cons (ev 2) a_nil))) (s_cons (s_ret e_bl)
    s_nil) s_nil)
    (s_cons (s_ret (e_and (e_cmpW w_lt (by with_unfolding_all rfl) (e_call F_greatest_mark (hr.mono (by first | decide | omega)) T.g_greatest_mark T.k_greatest_mark B_greatest_mark tkD (len_cons len_nil) rfl (a_cons (ev 1) a_nil)) (e_call F_marks_of (hr.mono (by first | decide | omega)) T.g_marks_of T.k_marks_of B_marks_of tkD (len_cons len_nil) rfl (a_cons (ev 2) a_nil))) (e_one (e_cmpW w_lt (by with_unfolding_all rfl) (e_call F_greatest_mark (hr.mono (by first | decide | omega)) T.g_greatest_mark T.k_greatest_mark B_greatest_mark tkD (len_cons len_nil) rfl (a_cons (ev 2) a_nil)) (e_call F_marks_of (hr.mono (by first | decide | omega)) T.g_marks_of T.k_marks_of B_marks_of tkD (len_cons len_nil) rfl (a_cons (ev 1) a_nil))))))
    s_nil))))
theorem ok_lines_of (F : Fun K (PySem.Str.ofString "lines_of") (PySem.Str.ofString "lines_of") st_lines_of a_lines_of fd_lines_of) : FnOk P w K mg base (L2.CX P w) 1 a_lines_of fd_lines_of ps_lines_of (spF ⟨w, K, mg⟩ 1 f_lines_of) := by
  have sc := sc_lines_of
  refine fn_ok F sc rfl (by decide) fun cdv A outer s H E hr => ?_
  exact (s_cons (s_ret (e_ife (t_valS (ev 0)) (e_split (ev 0) e_str) (e_lst a_nil)))
    s_nil)
theorem ok_is_figures (F : Fun K (PySem.Str.ofString "is_figures") (PySem.Str.ofString "is_figures") st_is_figures a_is_figures fd_is_figures) : FnOk P w K mg base (L2.CX P w) 1 a_is_figures fd_is_figures ps_is_figures (spF ⟨w, K, mg⟩ 1 f_is_figures) := by
  have sc := sc_is_figures
  refine fn_ok F sc rfl (by decide) fun cdv A outer s H E hr => ?_
  exact (s_cons (s_if (t_pw (tw_or (t_cmpW (w_eqA hr) (by with_unfolding_all rfl) (ev 0) e_str) (tw_or1 (t_not (t_valS (f_all rfl bt_all rfl T.n_all (a_cons (e_lc (own := [((PySem.Str.ofString "sign"), 1)]) rfl sc.nd (blkOk_by (by first | rfl | kernel_rfl | with_unfolding_all rfl)) rfl (i_str (ev 0)) (fun s H C cl fp => (g_name (i := 1) sc.nd rfl (by first | exact .inl rfl | exact .inr rfl))) (fun s H C cl fp => ts_nil) (fun s H C cl fp => (e_cmpW w_inSg (by with_unfolding_all rfl) (ev 1) e_str))) a_nil))))))) (s_cons (s_ret e_bl)
    s_nil) s_nil)
    (s_cons (s_ret (e_or (e_cmpW (w_eqA hr) (by with_unfolding_all rfl) (ev 0) e_str) (e_one (e_cmpW (w_neA hr) (by with_unfolding_all rfl) (x_ixS hr (ev 0) e_int) e_str))))
    s_nil))
theorem ok_Reader___init__ (F : Fun K (PySem.Str.ofString "__init__") (PySem.Str.ofString "Reader.__init__") st_Reader___init__ a_Reader___init__ fd_Reader___init__) (F_lines_of : FnOk P w K mg base (L2.CX P w) 1 a_lines_of fd_lines_of ps_lines_of (spF ⟨w, K, mg⟩ 1 f_lines_of)) (B_lines_of : Binds K fd_lines_of ps_lines_of []) : FnOk P w K mg base (L2.CX P w) 2 a_Reader___init__ fd_Reader___init__ ps_Reader___init__ (spF ⟨w, K, mg⟩ 2 f_Reader___init__) := by
  have sc := sc_Reader___init__
  refine fn_ok F sc rfl (by decide) fun cdv A outer s H E hr => ?_
  exact (s_cons (s_setA (ev 0) (e_call F_lines_of (hr.mono (by first | decide | omega)) T.g_lines_of T.k_lines_of B_lines_of tkD (len_cons len_nil) rfl (a_cons (ev 1) a_nil)) T.af_lines)
    (s_cons (s_setA (ev 0) e_int T.af_place)
    s_nil))
theorem ok_Reader_is_done (F : Fun K (PySem.Str.ofString "is_done") (PySem.Str.ofString "Reader.is_done") st_Reader_is_done a_Reader_is_done fd_Reader_is_done) : FnOk P w K mg base (L2.CX P w) 1 a_Reader_is_done fd_Reader_is_done ps_Reader_is_done (spF ⟨w, K, mg⟩ 1 f_Reader_is_done) := by
  have sc := sc_Reader_is_done
  refine fn_ok F sc rfl (by decide) fun cdv A outer s H E hr => ?_
  exact (s_cons (s_ret (e_cmpW (w_eqA hr) (by with_unfolding_all rfl) (e_fld (ev 0) T.af_place) (f_len rfl T.n_len (a_cons (e_fld (ev 0) T.af_lines) a_nil))))
    s_nil)
theorem ok_Reader_comes (F : Fun K (PySem.Str.ofString "comes") (PySem.Str.ofString "Reader.comes") st_Reader_comes a_Reader_comes fd_Reader_comes) (F_Reader_is_done : FnOk P w K mg base (L2.CX P w) 1 a_Reader_is_done fd_Reader_is_done ps_Reader_is_done (spF ⟨w, K, mg⟩ 1 f_Reader_is_done)) (B_Reader_is_done : Binds K fd_Reader_is_done ps_Reader_is_done []) : FnOk P w K mg base (L2.CX P w) 2 a_Reader_comes fd_Reader_comes ps_Reader_comes (spF ⟨w, K, mg⟩ 2 f_Reader_comes) := by
  have sc := sc_Reader_comes
  refine fn_ok F sc rfl (by decide) fun cdv A outer s H E hr => ?_
  exact (s_cons (s_ret (e_and (e_not (e_mtO0 (ev 0) T.cl_Reader T.gm_Reader_is_done F_Reader_is_done (hr.mono (by first | decide | omega)) B_Reader_is_done tkD T.g_Reader)) (e_one (e_cmpW (w_eqA hr) (by with_unfolding_all rfl) (x_ix hr (e_split (x_ix hr (e_fld (ev 0) T.af_lines) (e_fld (ev 0) T.af_place)) e_str) e_int) (ev 1)))))
    s_nil)
theorem ok_Reader_check (F : Fun K (PySem.Str.ofString "check") (PySem.Str.ofString "Reader.check") st_Reader_check a_Reader_check fd_Reader_check) : FnOk P w K mg base (L2.CX P w) 1 a_Reader_check fd_Reader_check ps_Reader_check (spF ⟨w, K, mg⟩ 2 f_Reader_check) := by
  have sc := sc_Reader_check
  refine fn_ok F sc rfl (by decide) fun cdv A outer s H E hr => ?_
  exact (s_cons (s_if (t_not (t_val (ev 1))) (s_cons (s_raise1 rfl tkD T.m_BadLine T.g_BadLine T.k_BadLine (raises_own T.b_BadLine T.t_BadLine) hr (e_fld (ev 0) T.af_place) rfl)
    s_nil) s_nil)
    s_nil)
theorem ok_Reader_behind (F : Fun K (PySem.Str.ofString "behind") (PySem.Str.ofString "Reader.behind") st_Reader_behind a_Reader_behind fd_Reader_behind) (F_Reader_comes : FnOk P w K mg base (L2.CX P w) 2 a_Reader_comes fd_Reader_comes ps_Reader_comes (spF ⟨w, K, mg⟩ 2 f_Reader_comes)) (B_Reader_comes : Binds K fd_Reader_comes ps_Reader_comes []) (F_Reader_check : FnOk P w K mg base (L2.CX P w) 1 a_Reader_check fd_Reader_check ps_Reader_check (spF ⟨w, K, mg⟩ 2 f_Reader_check)) (B_Reader_check : Binds K fd_Reader_check ps_Reader_check []) : FnOk P w K mg base (L2.CX P w) 3 a_Reader_behind fd_Reader_behind ps_Reader_behind (spF ⟨w, K, mg⟩ 2 f_Reader_behind) := by
  have sc := sc_Reader_behind
  refine fn_ok F sc rfl (by decide) fun cdv A outer s H E hr => ?_
  exact (s_cons (s_set (i := 2) sc.nd rfl (by first | exact .inl rfl | exact .inr rfl) (e_mtO (ev 0) T.cl_Reader T.gm_Reader_comes F_Reader_comes (hr.mono (by first | decide | omega)) B_Reader_comes tkD T.g_Reader (len_cons len_nil) (a_cons (ev 1) a_nil)))
    (s_cons (s_augA (ev 0) e_int T.af_place)
    (s_cons (s_expr (e_mtO (ev 0) T.cl_Reader T.gm_Reader_check F_Reader_check (hr.mono (by first | decide | omega)) B_Reader_check tkD T.g_Reader (len_cons len_nil) (a_cons (ev 2) a_nil)))
    (s_cons (s_ret (e_slice (e_split (x_ix hr (e_fld (ev 0) T.af_lines) (b_sub (e_fld (ev 0) T.af_place) e_int)) e_str) (o_some e_int) o_none))
    s_nil))))
theorem ok_Reader_counted (F : Fun K (PySem.Str.ofString "counted") (PySem.Str.ofString "Reader.counted") st_Reader_counted a_Reader_counted fd_Reader_counted) (F_Reader_behind : FnOk P w K mg base (L2.CX P w) 3 a_Reader_behind fd_Reader_behind ps_Reader_behind (spF ⟨w, K, mg⟩ 2 f_Reader_behind)) (B_Reader_behind : Binds K fd_Reader_behind ps_Reader_behind []) (F_Reader_check : FnOk P w K mg base (L2.CX P w) 1 a_Reader_check fd_Reader_check ps_Reader_check (spF ⟨w, K, mg⟩ 2 f_Reader_check)) (B_Reader_check : Binds K fd_Reader_check ps_Reader_check []) (F_is_figures : FnOk P w K mg base (L2.CX P w) 1 a_is_figures fd_is_figures ps_is_figures (spF ⟨w, K, mg⟩ 1 f_is_figures)) (B_is_figures : Binds K fd_is_figures ps_is_figures []) : FnOk P w K mg base (L2.CX P w) 4 a_Reader_counted fd_Reader_counted ps_Reader_counted (spF ⟨w, K, mg⟩ 2 f_Reader_counted) := by
  have sc := sc_Reader_counted
  refine fn_ok F sc rfl (by decide) fun cdv A outer s H E hr => ?_
  exact (s_cons (s_set (i := 2) sc.nd rfl (by first | exact .inl rfl | exact .inr rfl) (e_mtO (ev 0) T.cl_Reader T.gm_Reader_behind F_Reader_behind (hr.mono (by first | decide | omega)) B_Reader_behind tkD T.g_Reader (len_cons len_nil) (a_cons (ev 1) a_nil)))
    (s_cons (s_expr (e_mtO (ev 0) T.cl_Reader T.gm_Reader_check F_Reader_check (hr.mono (by first | decide | omega)) B_Reader_check tkD T.g_Reader (len_cons len_nil) (a_cons (f_all rfl bt_all rfl T.n_all (a_cons (e_lc (own := [((PySem.Str.ofString "own"), 3)]) rfl sc.nd (blkOk_by (by first | rfl | kernel_rfl | with_unfolding_all rfl)) rfl (i_any (ev 2)) (fun s H C cl fp => (g_name (i := 3) sc.nd rfl (by first | exact .inl rfl | exact .inr rfl))) (fun s H C cl fp => ts_nil) (fun s H C cl fp => (e_call F_is_figures (hr.mono (by first | decide | omega)) T.g_is_figures T.k_is_figures B_is_figures tkF (len_cons len_nil) rfl (a_cons (ev 3) a_nil)))) a_nil)) a_nil)))
    (s_cons (s_ret (e_lc (own := [((PySem.Str.ofString "own"), 3)]) rfl sc.nd (blkOk_by (by first | rfl | kernel_rfl | with_unfolding_all rfl)) rfl (i_any (ev 2)) (fun s H C cl fp => (g_name (i := 3) sc.nd rfl (by first | exact .inl rfl | exact .inr rfl))) (fun s H C cl fp => ts_nil) (fun s H C cl fp => (f_intS bt_int rfl T.n_int (a_cons (ev 3) a_nil)))))
    s_nil)))
theorem ok_Reader_counted_just (F : Fun K (PySem.Str.ofString "counted_just") (PySem.Str.ofString "Reader.counted_just") st_Reader_counted_just a_Reader_counted_just fd_Reader_counted_just) (F_Reader_counted : FnOk P w K mg base (L2.CX P w) 4 a_Reader_counted fd_Reader_counted ps_Reader_counted (spF ⟨w, K, mg⟩ 2 f_Reader_counted)) (B_Reader_counted : Binds K fd_Reader_counted ps_Reader_counted []) (F_Reader_check : FnOk P w K mg base (L2.CX P w) 1 a_Reader_check fd_Reader_check ps_Reader_check (spF ⟨w, K, mg⟩ 2 f_Reader_check)) (B_Reader_check : Binds K fd_Reader_check ps_Reader_check []) : FnOk P w K mg base (L2.CX P w) 5 a_Reader_counted_just fd_Reader_counted_just ps_Reader_counted_just (spF ⟨w, K, mg⟩ 3 f_Reader_counted_just) := by
  have sc := sc_Reader_counted_just
  refine fn_ok F sc rfl (by decide) fun cdv A outer s H E hr => ?_
  exact (s_cons (s_set (i := 3) sc.nd rfl (by first | exact .inl rfl | exact .inr rfl) (e_mtO (ev 0) T.cl_Reader T.gm_Reader_counted F_Reader_counted (hr.mono (by first | decide | omega)) B_Reader_counted tkD T.g_Reader (len_cons len_nil) (a_cons (ev 1) a_nil)))
    (s_cons (s_expr (e_mtO (ev 0) T.cl_Reader T.gm_Reader_check F_Reader_check (hr.mono (by first | decide | omega)) B_Reader_check tkD T.g_Reader (len_cons len_nil) (a_cons (e_cmpW (w_eqA hr) (by with_unfolding_all rfl) (f_len rfl T.n_len (a_cons (ev 3) a_nil)) (ev 2)) a_nil)))
    (s_cons (s_ret (ev 3))
    s_nil)))
theorem ok_Reader_end (F : Fun K (PySem.Str.ofString "end") (PySem.Str.ofString "Reader.end") st_Reader_end a_Reader_end fd_Reader_end) (F_Reader_is_done : FnOk P w K mg base (L2.CX P w) 1 a_Reader_is_done fd_Reader_is_done ps_Reader_is_done (spF ⟨w, K, mg⟩ 1 f_Reader_is_done)) (B_Reader_is_done : Binds K fd_Reader_is_done ps_Reader_is_done []) : FnOk P w K mg base (L2.CX P w) 2 a_Reader_end fd_Reader_end ps_Reader_end (spF ⟨w, K, mg⟩ 1 f_Reader_end) := by
  have sc := sc_Reader_end
  refine fn_ok F sc rfl (by decide) fun cdv A outer s H E hr => ?_
  exact (s_cons (s_if (t_not (t_val (e_mtO0 (ev 0) T.cl_Reader T.gm_Reader_is_done F_Reader_is_done (hr.mono (by first | decide | omega)) B_Reader_is_done tkD T.g_Reader))) (s_cons (s_raise1 rfl tkD T.m_BadLine T.g_BadLine T.k_BadLine (raises_own T.b_BadLine T.t_BadLine) hr (b_add (e_fld (ev 0) T.af_place) e_int) rfl)
    s_nil) s_nil)
    s_nil)
theorem ok_line_with (F : Fun K (PySem.Str.ofString "line_with") (PySem.Str.ofString "line_with") st_line_with a_line_with fd_line_with) : FnOk P w K mg base (L2.CX P w) 1 a_line_with fd_line_with ps_line_with (spF ⟨w, K, mg⟩ 2 f_line_with) := by
  have sc := sc_line_with
  refine fn_ok F sc rfl (by decide) fun cdv A outer s H E hr => ?_
  exact (s_cons (s_ret (e_join e_str (b_add (e_lst (a_cons (ev 0) a_nil)) (e_lc (own := [((PySem.Str.ofString "own"), 2)]) rfl sc.nd (blkOk_by (by first | rfl | kernel_rfl | with_unfolding_all rfl)) rfl (i_any (ev 1)) (fun s H C cl fp => (g_name (i := 2) sc.nd rfl (by first | exact .inl rfl | exact .inr rfl))) (fun s H C cl fp => ts_nil) (fun s H C cl fp => (f_strI bt_str rfl T.n_str (a_cons (ev 2) a_nil)))))))
    s_nil)
theorem ok_machine_text (F : Fun K (PySem.Str.ofString "machine_text") (PySem.Str.ofString "machine_text") st_machine_text a_machine_text fd_machine_text) (F_line_with : FnOk P w K mg base (L2.CX P w) 1 a_line_with fd_line_with ps_line_with (spF ⟨w, K, mg⟩ 2 f_line_with)) (B_line_with : Binds K fd_line_with ps_line_with []) (F_letters_in : FnOk P w K mg base (L2.CX P w) 1 a_letters_in fd_letters_in ps_letters_in (spF ⟨w, K, mg⟩ 1 f_letters_in)) (B_letters_in : Binds K fd_letters_in ps_letters_in []) : FnOk P w K mg base (L2.CX P w) 2 a_machine_text fd_machine_text ps_machine_text (spF ⟨w, K, mg⟩ 1 f_machine_text) := by
  have sc := sc_machine_text
  refine fn_ok F sc rfl (by decide) fun cdv A outer s H E hr => ?_
  exact (s_cons (s_asg (ev 0) (g_tup rfl (gs_c (g_name (i := 2) sc.nd rfl (by first | exact .inl rfl | exact .inr rfl)) (gs_c (g_name (i := 3) sc.nd rfl (by first | exact .inl rfl | exact .inr rfl)) gs_nil))))
    (s_cons (s_set (i := 1) sc.nd rfl (by first | exact .inl rfl | exact .inr rfl) (b_add (e_lst (a_cons (e_call F_line_with (hr.mono (by first | decide | omega)) T.g_line_with T.k_line_with B_line_with tkD (len_cons (len_cons len_nil)) rfl (a_cons e_str (a_cons (e_lst (a_cons (e_call F_letters_in (hr.mono (by first | decide | omega)) T.g_letters_in T.k_letters_in B_letters_in tkD (len_cons len_nil) rfl (a_cons (ev 0) a_nil)) a_nil)) a_nil))) a_nil)) (e_lc (own := [((PySem.Str.ofString "row"), 4)]) rfl sc.nd (blkOk_by (by first | rfl | kernel_rfl | with_unfolding_all rfl)) rfl (i_any (ev 2)) (fun s H C cl fp => (g_name (i := 4) sc.nd rfl (by first | exact .inl rfl | exact .inr rfl))) (fun s H C cl fp => ts_nil) (fun s H C cl fp => (e_call F_line_with (hr.mono (by first | decide | omega)) T.g_line_with T.k_line_with B_line_with tkF (len_cons (len_cons len_nil)) rfl (a_cons e_str (a_cons (ev 4) a_nil)))))))
    (s_cons (s_ret (e_join e_str (b_add (ev 1) (e_lst (a_cons (e_call F_line_with (hr.mono (by first | decide | omega)) T.g_line_with T.k_line_with B_line_with tkD (len_cons (len_cons len_nil)) rfl (a_cons e_str (a_cons (ev 3) a_nil))) a_nil)))))
    s_nil)))
theorem ok_run_text (F : Fun K (PySem.Str.ofString "run_text") (PySem.Str.ofString "run_text") st_run_text a_run_text fd_run_text) (F_line_with : FnOk P w K mg base (L2.CX P w) 1 a_line_with fd_line_with ps_line_with (spF ⟨w, K, mg⟩ 2 f_line_with)) (B_line_with : Binds K fd_line_with ps_line_with []) : FnOk P w K mg base (L2.CX P w) 2 a_run_text fd_run_text ps_run_text (spF ⟨w, K, mg⟩ 1 f_run_text) := by
  have sc := sc_run_text
  refine fn_ok F sc rfl (by decide) fun cdv A outer s H E hr => ?_
  exact (s_cons (s_setLc (i := 1) (own := [((PySem.Str.ofString "side"), 2), ((PySem.Str.ofString "letter"), 3)]) rfl sc.nd rfl rfl rfl (blkOk_by (by first | rfl | kernel_rfl | with_unfolding_all rfl)) rfl (i_any (ev 0)) (fun s H C cl fp => (g_tup rfl (gs_c (g_name (i := 2) sc.nd rfl (by first | exact .inl rfl | exact .inr rfl)) (gs_c (g_name (i := 3) sc.nd rfl (by first | exact .inl rfl | exact .inr rfl)) gs_nil)))) (fun s H C cl fp => ts_nil) (fun s H C cl fp => (e_ife (t_cmpW w_gt (by with_unfolding_all rfl) (ev 3) e_int) (e_call F_line_with (hr.mono (by first | decide | omega)) T.g_line_with T.k_line_with B_line_with tkF (len_cons (len_cons len_nil)) rfl (a_cons e_str (a_cons (e_lst (a_cons (ev 2) (a_cons (ev 3) a_nil))) a_nil))) (e_call F_line_with (hr.mono (by first | decide | omega)) T.g_line_with T.k_line_with B_line_with tkF (len_cons (len_cons len_nil)) rfl (a_cons e_str (a_cons (e_lst (a_cons (ev 2) a_nil)) a_nil))))))
    (s_cons (s_ret (e_join e_str (b_add (e_lst (a_cons e_str a_nil)) (ev 1))))
    s_nil))
theorem ok_keeper_text (F : Fun K (PySem.Str.ofString "keeper_text") (PySem.Str.ofString "keeper_text") st_keeper_text a_keeper_text fd_keeper_text) (F_line_with : FnOk P w K mg base (L2.CX P w) 1 a_line_with fd_line_with ps_line_with (spF ⟨w, K, mg⟩ 2 f_line_with)) (B_line_with : Binds K fd_line_with ps_line_with []) (F_letters_of : FnOk P w K mg base (L2.CX P w) 1 a_letters_of fd_letters_of ps_letters_of (spF ⟨w, K, mg⟩ 1 f_letters_of)) (B_letters_of : Binds K fd_letters_of ps_letters_of []) (F_marks_of : FnOk P w K mg base (L2.CX P w) 1 a_marks_of fd_marks_of ps_marks_of (spF ⟨w, K, mg⟩ 1 f_marks_of)) (B_marks_of : Binds K fd_marks_of ps_marks_of []) : FnOk P w K mg base (L2.CX P w) 2 a_keeper_text fd_keeper_text ps_keeper_text (spF ⟨w, K, mg⟩ 1 f_keeper_text) := by
  have sc := sc_keeper_text
  refine fn_ok F sc rfl (by decide) fun cdv A outer s H E hr => ?_
  exact (s_cons (s_asg (ev 0) (g_tup rfl (gs_c (g_name (i := 3) sc.nd rfl (by first | exact .inl rfl | exact .inr rfl)) (gs_c (g_name (i := 4) sc.nd rfl (by first | exact .inl rfl | exact .inr rfl)) (gs_c (g_name (i := 5) sc.nd rfl (by first | exact .inl rfl | exact .inr rfl)) gs_nil)))))
    (s_cons (s_setLc (i := 1) (own := [((PySem.Str.ofString "own"), 8)]) rfl sc.nd rfl rfl rfl (blkOk_by (by first | rfl | kernel_rfl | with_unfolding_all rfl)) rfl (i_any (ev 3)) (fun s H C cl fp => (g_name (i := 8) sc.nd rfl (by first | exact .inl rfl | exact .inr rfl))) (fun s H C cl fp => ts_nil) (fun s H C cl fp => (e_ife (t_val (ev 8)) e_str e_str)))
    (s_cons (s_set (i := 2) sc.nd rfl (by first | exact .inl rfl | exact .inr rfl) (e_lst (a_cons (e_call F_line_with (hr.mono (by first | decide | omega)) T.g_line_with T.k_line_with B_line_with tkD (len_cons (len_cons len_nil)) rfl (a_cons e_str (a_cons (e_lst (a_cons (e_call F_letters_of (hr.mono (by first | decide | omega)) T.g_letters_of T.k_letters_of B_letters_of tkD (len_cons len_nil) rfl (a_cons (ev 0) a_nil)) (a_cons (e_call F_marks_of (hr.mono (by first | decide | omega)) T.g_marks_of T.k_marks_of B_marks_of tkD (len_cons len_nil) rfl (a_cons (ev 0) a_nil)) a_nil))) a_nil))) (a_cons (e_join e_str (b_add (e_lst (a_cons e_str a_nil)) (ev 1))) a_nil))))
    (s_cons (s_for poD rfl (i_zip rfl T.n_zip (a_cons (ev 4) (a_cons (ev 5) a_nil))) (g_tup rfl (gs_c (g_name (i := 6) sc.nd rfl (by first | exact .inl rfl | exact .inr rfl)) (gs_c (g_name (i := 7) sc.nd rfl (by first | exact .inl rfl | exact .inr rfl)) gs_nil))) (s_cons (s_expr (e_append (ev 2) (a_cons (e_call F_line_with (hr.mono (by first | decide | omega)) T.g_line_with T.k_line_with B_line_with tkD (len_cons (len_cons len_nil)) rfl (a_cons e_str (a_cons (e_lc2 (own := [((PySem.Str.ofString "step"), 9), ((PySem.Str.ofString "own"), 8)]) (vs0 := [9]) rfl sc.nd (blkOk_by (by first | rfl | kernel_rfl | with_unfolding_all rfl)) rfl (by decide) (by decide) (i_any (ev 6)) (fun s H C cl fp => (g_name (i := 9) sc.nd rfl (by first | exact .inl rfl | exact .inr rfl))) (fun s H C cl fp => ts_nil) (fun s H C cl fp => (i_any (ev 9))) (fun s H C cl fp => (g_name (i := 8) sc.nd rfl (by first | exact .inl rfl | exact .inr rfl))) (fun s H C cl fp => ts_nil) (fun s H C cl fp => (ev 8))) a_nil))) a_nil)))
    (s_cons (s_expr (e_append (ev 2) (a_cons (e_call F_line_with (hr.mono (by first | decide | omega)) T.g_line_with T.k_line_with B_line_with tkD (len_cons (len_cons len_nil)) rfl (a_cons e_str (a_cons (e_lc2 (own := [((PySem.Str.ofString "row"), 10), ((PySem.Str.ofString "own"), 8)]) (vs0 := [10]) rfl sc.nd (blkOk_by (by first | rfl | kernel_rfl | with_unfolding_all rfl)) rfl (by decide) (by decide) (i_any (ev 7)) (fun s H C cl fp => (g_name (i := 10) sc.nd rfl (by first | exact .inl rfl | exact .inr rfl))) (fun s H C cl fp => ts_nil) (fun s H C cl fp => (i_any (ev 10))) (fun s H C cl fp => (g_name (i := 8) sc.nd rfl (by first | exact .inl rfl | exact .inr rfl))) (fun s H C cl fp => ts_nil) (fun s H C cl fp => (ev 8))) a_nil))) a_nil)))
    s_nil)))
    (s_cons (s_ret (e_join e_str (ev 2)))
    s_nil)))))
theorem ok_pair_text (F : Fun K (PySem.Str.ofString "pair_text") (PySem.Str.ofString "pair_text") st_pair_text a_pair_text fd_pair_text) (F_keeper_text : FnOk P w K mg base (L2.CX P w) 2 a_keeper_text fd_keeper_text ps_keeper_text (spF ⟨w, K, mg⟩ 1 f_keeper_text)) (B_keeper_text : Binds K fd_keeper_text ps_keeper_text []) : FnOk P w K mg base (L2.CX P w) 3 a_pair_text fd_pair_text ps_pair_text (spF ⟨w, K, mg⟩ 1 f_pair_text) := by
  have sc := sc_pair_text
  refine fn_ok F sc rfl (by decide) fun cdv A outer s H E hr => ?_
  exact (s_cons (s_ret (e_join e_str (e_lc (own := [((PySem.Str.ofString "keeper"), 1)]) rfl sc.nd (blkOk_by (by first | rfl | kernel_rfl | with_unfolding_all rfl)) rfl (i_any (ev 0)) (fun s H C cl fp => (g_name (i := 1) sc.nd rfl (by first | exact .inl rfl | exact .inr rfl))) (fun s H C cl fp => ts_nil) (fun s H C cl fp => (e_call F_keeper_text (hr.mono (by first | decide | omega)) T.g_keeper_text T.k_keeper_text B_keeper_text tkF (len_cons len_nil) rfl (a_cons (ev 1) a_nil))))))
    s_nil)
theorem ok_machine_read (F : Fun K (PySem.Str.ofString "machine_read") (PySem.Str.ofString "machine_read") st_machine_read a_machine_read fd_machine_read) (F_Reader___init__ : FnOk P w K mg base (L2.CX P w) 2 a_Reader___init__ fd_Reader___init__ ps_Reader___init__ (spF ⟨w, K, mg⟩ 2 f_Reader___init__)) (B_Reader___init__ : Binds K fd_Reader___init__ ps_Reader___init__ []) (F_Reader_counted_just : FnOk P w K mg base (L2.CX P w) 5 a_Reader_counted_just fd_Reader_counted_just ps_Reader_counted_just (spF ⟨w, K, mg⟩ 3 f_Reader_counted_just)) (B_Reader_counted_just : Binds K fd_Reader_counted_just ps_Reader_counted_just []) (F_Reader_check : FnOk P w K mg base (L2.CX P w) 1 a_Reader_check fd_Reader_check ps_Reader_check (spF ⟨w, K, mg⟩ 2 f_Reader_check)) (B_Reader_check : Binds K fd_Reader_check ps_Reader_check []) (F_Reader_comes : FnOk P w K mg base (L2.CX P w) 2 a_Reader_comes fd_Reader_comes ps_Reader_comes (spF ⟨w, K, mg⟩ 2 f_Reader_comes)) (B_Reader_comes : Binds K fd_Reader_comes ps_Reader_comes []) (F_Reader_counted : FnOk P w K mg base (L2.CX P w) 4 a_Reader_counted fd_Reader_counted ps_Reader_counted (spF ⟨w, K, mg⟩ 2 f_Reader_counted)) (B_Reader_counted : Binds K fd_Reader_counted ps_Reader_counted []) (F_Reader_end : FnOk P w K mg base (L2.CX P w) 2 a_Reader_end fd_Reader_end ps_Reader_end (spF ⟨w, K, mg⟩ 1 f_Reader_end)) (B_Reader_end : Binds K fd_Reader_end ps_Reader_end []) (F_is_machine : FnOk P w K mg base (L2.CX P w) 5 a_is_machine fd_is_machine ps_is_machine (spF ⟨w, K, mg⟩ 1 f_is_machine)) (B_is_machine : Binds K fd_is_machine ps_is_machine []) : FnOk P w K mg base (L2.CX P w) 6 a_machine_read fd_machine_read ps_machine_read (spF ⟨w, K, mg⟩ 1 f_machine_read) := by
  have sc := sc_machine_read
  refine fn_ok F sc rfl (by decide) fun cdv A outer s H E hr => ?_
  exact (s_cons (s_set (i := 1) sc.nd rfl (by first | exact .inl rfl | exact .inr rfl) (e_make T.mki_Reader F_Reader___init__ (hr.mono (by first | decide | omega)) B_Reader___init__ tkD T.g_Reader (len_cons len_nil) rfl (a_cons (ev 0) a_nil)))
    (s_cons (s_set (i := 2) sc.nd rfl (by first | exact .inl rfl | exact .inr rfl) (x_ix hr (e_mtO (ev 1) T.cl_Reader T.gm_Reader_counted_just F_Reader_counted_just (hr.mono (by first | decide | omega)) B_Reader_counted_just tkD T.g_Reader (len_cons (len_cons len_nil)) (a_cons e_str (a_cons e_int a_nil))) e_int))
    (s_cons (s_expr (e_mtO (ev 1) T.cl_Reader T.gm_Reader_check F_Reader_check (hr.mono (by first | decide | omega)) B_Reader_check tkD T.g_Reader (len_cons len_nil) (a_cons (e_cmpW w_gt (by with_unfolding_all rfl) (ev 2) e_int) a_nil)))
    (s_cons (s_set (i := 3) sc.nd rfl (by first | exact .inl rfl | exact .inr rfl) (e_lst (a_cons (f_tuple bt_tuple rfl T.n_tuple (a_cons (e_mtO (ev 1) T.cl_Reader T.gm_Reader_counted_just F_Reader_counted_just (hr.mono (by first | decide | omega)) B_Reader_counted_just tkD T.g_Reader (len_cons (len_cons len_nil)) (a_cons e_str (a_cons (ev 2) a_nil))) a_nil)) a_nil)))
    (s_cons (s_while 100000 poD (t_val (e_mtO (ev 1) T.cl_Reader T.gm_Reader_comes F_Reader_comes (hr.mono (by first | decide | omega)) B_Reader_comes tkD T.g_Reader (len_cons len_nil) (a_cons e_str a_nil))) (s_cons (s_expr (e_append (ev 3) (a_cons (f_tuple bt_tuple rfl T.n_tuple (a_cons (e_mtO (ev 1) T.cl_Reader T.gm_Reader_counted_just F_Reader_counted_just (hr.mono (by first | decide | omega)) B_Reader_counted_just tkD T.g_Reader (len_cons (len_cons len_nil)) (a_cons e_str (a_cons (ev 2) a_nil))) a_nil)) a_nil)))
    s_nil))
    (s_cons (s_set (i := 4) sc.nd rfl (by first | exact .inl rfl | exact .inr rfl) (e_mtO (ev 1) T.cl_Reader T.gm_Reader_counted F_Reader_counted (hr.mono (by first | decide | omega)) B_Reader_counted tkD T.g_Reader (len_cons len_nil) (a_cons e_str a_nil)))
    (s_cons (s_expr (e_mtO (ev 1) T.cl_Reader T.gm_Reader_check F_Reader_check (hr.mono (by first | decide | omega)) B_Reader_check tkD T.g_Reader (len_cons len_nil) (a_cons (f_all rfl bt_all rfl T.n_all (a_cons (e_lc (own := [((PySem.Str.ofString "low"), 6), ((PySem.Str.ofString "high"), 7)]) rfl sc.nd (blkOk_by (by first | rfl | kernel_rfl | with_unfolding_all rfl)) rfl (i_zip rfl T.n_zip (a_cons (ev 4) (a_cons (e_slice (ev 4) (o_some e_int) o_none) a_nil))) (fun s H C cl fp => (g_tup rfl (gs_c (g_name (i := 6) sc.nd rfl (by first | exact .inl rfl | exact .inr rfl)) (gs_c (g_name (i := 7) sc.nd rfl (by first | exact .inl rfl | exact .inr rfl)) gs_nil)))) (fun s H C cl fp => ts_nil) (fun s H C cl fp => (e_cmpW w_lt (by with_unfolding_all rfl) (ev 6) (ev 7)))) a_nil)) a_nil)))
    (s_cons (s_expr (e_mtO0 (ev 1) T.cl_Reader T.gm_Reader_end F_Reader_end (hr.mono (by first | decide | omega)) B_Reader_end tkD T.g_Reader))
    (s_cons (s_set (i := 5) sc.nd rfl (by first | exact .inl rfl | exact .inr rfl) (e_tup (a_cons (f_tuple bt_tuple rfl T.n_tuple (a_cons (ev 3) a_nil)) (a_cons (f_tuple bt_tuple rfl T.n_tuple (a_cons (ev 4) a_nil)) a_nil))))
    (s_cons (s_if (t_not (t_val (e_call F_is_machine (hr.mono (by first | decide | omega)) T.g_is_machine T.k_is_machine B_is_machine tkD (len_cons len_nil) rfl (a_cons (ev 5) a_nil)))) (s_cons (s_raise0 rfl tkD PySem.F.excBase_ValueError T.x_Unfit T.g_Unfit T.k_Unfit (raises_own T.b_Unfit T.t_Unfit) rfl)
    s_nil) s_nil)
    (s_cons (s_ret (ev 5))
    s_nil)))))))))))
theorem ok_event_read (F : Fun K (PySem.Str.ofString "event_read") (PySem.Str.ofString "event_read") st_event_read a_event_read fd_event_read) (F_Reader_comes : FnOk P w K mg base (L2.CX P w) 2 a_Reader_comes fd_Reader_comes ps_Reader_comes (spF ⟨w, K, mg⟩ 2 f_Reader_comes)) (B_Reader_comes : Binds K fd_Reader_comes ps_Reader_comes []) (F_Reader_counted_just : FnOk P w K mg base (L2.CX P w) 5 a_Reader_counted_just fd_Reader_counted_just ps_Reader_counted_just (spF ⟨w, K, mg⟩ 3 f_Reader_counted_just)) (B_Reader_counted_just : Binds K fd_Reader_counted_just ps_Reader_counted_just []) (F_Reader_check : FnOk P w K mg base (L2.CX P w) 1 a_Reader_check fd_Reader_check ps_Reader_check (spF ⟨w, K, mg⟩ 2 f_Reader_check)) (B_Reader_check : Binds K fd_Reader_check ps_Reader_check []) : FnOk P w K mg base (L2.CX P w) 6 a_event_read fd_event_read ps_event_read (spF ⟨w, K, mg⟩ 1 f_event_read) := by
  have sc := sc_event_read
  refine fn_ok F sc rfl (by decide) fun cdv A outer s H E hr => ?_
  exact (s_cons (s_if (t_not (t_val (e_mtO (ev 0) T.cl_Reader T.gm_Reader_comes F_Reader_comes (hr.mono (by first | decide | omega)) B_Reader_comes tkD T.g_Reader (len_cons len_nil) (a_cons e_str a_nil)))) (s_cons (s_ret (e_tup (a_cons (x_ix hr (e_mtO (ev 0) T.cl_Reader T.gm_Reader_counted_just F_Reader_counted_just (hr.mono (by first | decide | omega)) B_Reader_counted_just tkD T.g_Reader (len_cons (len_cons len_nil)) (a_cons e_str (a_cons e_int a_nil))) e_int) (a_cons e_int a_nil))))
    s_nil) s_nil)
    (s_cons (s_asg (e_mtO (ev 0) T.cl_Reader T.gm_Reader_counted_just F_Reader_counted_just (hr.mono (by first | decide | omega)) B_Reader_counted_just tkD T.g_Reader (len_cons (len_cons len_nil)) (a_cons e_str (a_cons e_int a_nil))) (g_tup rfl (gs_c (g_name (i := 1) sc.nd rfl (by first | exact .inl rfl | exact .inr rfl)) (gs_c (g_name (i := 2) sc.nd rfl (by first | exact .inl rfl | exact .inr rfl)) gs_nil))))
    (s_cons (s_expr (e_mtO (ev 0) T.cl_Reader T.gm_Reader_check F_Reader_check (hr.mono (by first | decide | omega)) B_Reader_check tkD T.g_Reader (len_cons len_nil) (a_cons (e_cmpW w_gt (by with_unfolding_all rfl) (ev 2) e_int) a_nil)))
    (s_cons (s_ret (e_tup (a_cons (ev 1) (a_cons (ev 2) a_nil))))
    s_nil))))
theorem ok_run_read (F : Fun K (PySem.Str.ofString "run_read") (PySem.Str.ofString "run_read") st_run_read a_run_read fd_run_read) (F_Reader___init__ : FnOk P w K mg base (L2.CX P w) 2 a_Reader___init__ fd_Reader___init__ ps_Reader___init__ (spF ⟨w, K, mg⟩ 2 f_Reader___init__)) (B_Reader___init__ : Binds K fd_Reader___init__ ps_Reader___init__ []) (F_Reader_counted_just : FnOk P w K mg base (L2.CX P w) 5 a_Reader_counted_just fd_Reader_counted_just ps_Reader_counted_just (spF ⟨w, K, mg⟩ 3 f_Reader_counted_just)) (B_Reader_counted_just : Binds K fd_Reader_counted_just ps_Reader_counted_just []) (F_Reader_is_done : FnOk P w K mg base (L2.CX P w) 1 a_Reader_is_done fd_Reader_is_done ps_Reader_is_done (spF ⟨w, K, mg⟩ 1 f_Reader_is_done)) (B_Reader_is_done : Binds K fd_Reader_is_done ps_Reader_is_done []) (F_event_read : FnOk P w K mg base (L2.CX P w) 6 a_event_read fd_event_read ps_event_read (spF ⟨w, K, mg⟩ 1 f_event_read)) (B_event_read : Binds K fd_event_read ps_event_read []) (F_is_run : FnOk P w K mg base (L2.CX P w) 4 a_is_run fd_is_run ps_is_run (spF ⟨w, K, mg⟩ 1 f_is_run)) (B_is_run : Binds K fd_is_run ps_is_run []) : FnOk P w K mg base (L2.CX P w) 7 a_run_read fd_run_read ps_run_read (spF ⟨w, K, mg⟩ 1 f_run_read) := by
  have sc := sc_run_read
  refine fn_ok F sc rfl (by decide) fun cdv A outer s H E hr => ?_
  exact (s_cons (s_set (i := 1) sc.nd rfl (by first | exact .inl rfl | exact .inr rfl) (e_make T.mki_Reader F_Reader___init__ (hr.mono (by first | decide | omega)) B_Reader___init__ tkD T.g_Reader (len_cons len_nil) rfl (a_cons (ev 0) a_nil)))
    (s_cons (s_expr (e_mtO (ev 1) T.cl_Reader T.gm_Reader_counted_just F_Reader_counted_just (hr.mono (by first | decide | omega)) B_Reader_counted_just tkD T.g_Reader (len_cons (len_cons len_nil)) (a_cons e_str (a_cons e_int a_nil))))
    (s_cons (s_set (i := 2) sc.nd rfl (by first | exact .inl rfl | exact .inr rfl) (e_lst a_nil))
    (s_cons (s_while 100000 poD (t_not (t_val (e_mtO0 (ev 1) T.cl_Reader T.gm_Reader_is_done F_Reader_is_done (hr.mono (by first | decide | omega)) B_Reader_is_done tkD T.g_Reader))) (s_cons (s_expr (e_append (ev 2) (a_cons (e_call F_event_read (hr.mono (by first | decide | omega)) T.g_event_read T.k_event_read B_event_read tkD (len_cons len_nil) rfl (a_cons (ev 1) a_nil)) a_nil)))
    s_nil))
    (s_cons (s_set (i := 3) sc.nd rfl (by first | exact .inl rfl | exact .inr rfl) (f_tuple bt_tuple rfl T.n_tuple (a_cons (ev 2) a_nil)))
    (s_cons (s_if (t_not (t_val (e_call F_is_run (hr.mono (by first | decide | omega)) T.g_is_run T.k_is_run B_is_run tkD (len_cons len_nil) rfl (a_cons (ev 3) a_nil)))) (s_cons (s_raise0 rfl tkD PySem.F.excBase_ValueError T.x_Unfit T.g_Unfit T.k_Unfit (raises_own T.b_Unfit T.t_Unfit) rfl)
    s_nil) s_nil)
    (s_cons (s_ret (ev 3))
    s_nil)))))))
theorem ok_keeper_lines_read (F : Fun K (PySem.Str.ofString "keeper_lines_read") (PySem.Str.ofString "keeper_lines_read") st_keeper_lines_read a_keeper_lines_read fd_keeper_lines_read) (F_Reader_counted_just : FnOk P w K mg base (L2.CX P w) 5 a_Reader_counted_just fd_Reader_counted_just ps_Reader_counted_just (spF ⟨w, K, mg⟩ 3 f_Reader_counted_just)) (B_Reader_counted_just : Binds K fd_Reader_counted_just ps_Reader_counted_just []) (F_Reader_check : FnOk P w K mg base (L2.CX P w) 1 a_Reader_check fd_Reader_check ps_Reader_check (spF ⟨w, K, mg⟩ 2 f_Reader_check)) (B_Reader_check : Binds K fd_Reader_check ps_Reader_check []) (F_Reader_behind : FnOk P w K mg base (L2.CX P w) 3 a_Reader_behind fd_Reader_behind ps_Reader_behind (spF ⟨w, K, mg⟩ 2 f_Reader_behind)) (B_Reader_behind : Binds K fd_Reader_behind ps_Reader_behind []) : FnOk P w K mg base (L2.CX P w) 6 a_keeper_lines_read fd_keeper_lines_read ps_keeper_lines_read (spF ⟨w, K, mg⟩ 1 f_keeper_lines_read) := by
  have sc := sc_keeper_lines_read
  refine fn_ok F sc rfl (by decide) fun cdv A outer s H E hr => ?_
  exact (s_cons (s_asg (e_mtO (ev 0) T.cl_Reader T.gm_Reader_counted_just F_Reader_counted_just (hr.mono (by first | decide | omega)) B_Reader_counted_just tkD T.g_Reader (len_cons (len_cons len_nil)) (a_cons e_str (a_cons e_int a_nil))) (g_tup rfl (gs_c (g_name (i := 5) sc.nd rfl (by first | exact .inl rfl | exact .inr rfl)) (gs_c (g_name (i := 6) sc.nd rfl (by first | exact .inl rfl | exact .inr rfl)) gs_nil))))
    (s_cons (s_expr (e_mtO (ev 0) T.cl_Reader T.gm_Reader_check F_Reader_check (hr.mono (by first | decide | omega)) B_Reader_check tkD T.g_Reader (len_cons len_nil) (a_cons (e_and (e_cmpW w_gt (by with_unfolding_all rfl) (ev 5) e_int) (e_one (e_cmpW w_gt (by with_unfolding_all rfl) (ev 6) e_int))) a_nil)))
    (s_cons (s_set (i := 1) sc.nd rfl (by first | exact .inl rfl | exact .inr rfl) (e_mtO (ev 0) T.cl_Reader T.gm_Reader_behind F_Reader_behind (hr.mono (by first | decide | omega)) B_Reader_behind tkD T.g_Reader (len_cons len_nil) (a_cons e_str a_nil)))
    (s_cons (s_expr (e_mtO (ev 0) T.cl_Reader T.gm_Reader_check F_Reader_check (hr.mono (by first | decide | omega)) B_Reader_check tkD T.g_Reader (len_cons len_nil) (a_cons (e_and (e_cmpW w_gt (by with_unfolding_all rfl) (f_len rfl T.n_len (a_cons (ev 1) a_nil)) e_int) (e_one (f_all rfl bt_all rfl T.n_all (a_cons (e_lc (own := [((PySem.Str.ofString "own"), 9)]) rfl sc.nd (blkOk_by (by first | rfl | kernel_rfl | with_unfolding_all rfl)) rfl (i_any (ev 1)) (fun s H C cl fp => (g_name (i := 9) sc.nd rfl (by first | exact .inl rfl | exact .inr rfl))) (fun s H C cl fp => ts_nil) (fun s H C cl fp => (e_cmpW (w_inB T.c_ANSWERS) (by with_unfolding_all rfl) (ev 9) (e_globB rfl T.c_ANSWERS)))) a_nil)))) a_nil)))
    (s_cons (s_set (i := 2) sc.nd rfl (by first | exact .inl rfl | exact .inr rfl) (e_lst a_nil))
    (s_cons (s_set (i := 3) sc.nd rfl (by first | exact .inl rfl | exact .inr rfl) (e_lst a_nil))
    (s_cons (s_for poD rfl (i_any (ev 1)) (g_name (i := 4) sc.nd rfl (by first | exact .inl rfl | exact .inr rfl)) (s_cons (s_set (i := 7) sc.nd rfl (by first | exact .inl rfl | exact .inr rfl) (e_mtO (ev 0) T.cl_Reader T.gm_Reader_counted_just F_Reader_counted_just (hr.mono (by first | decide | omega)) B_Reader_counted_just tkD T.g_Reader (len_cons (len_cons len_nil)) (a_cons e_str (a_cons (b_mulW e_int (ev 5)) a_nil))))
    (s_cons (s_set (i := 8) sc.nd rfl (by first | exact .inl rfl | exact .inr rfl) (e_mtO (ev 0) T.cl_Reader T.gm_Reader_counted_just F_Reader_counted_just (hr.mono (by first | decide | omega)) B_Reader_counted_just tkD T.g_Reader (len_cons (len_cons len_nil)) (a_cons e_str (a_cons (b_mulW (ev 5) (ev 6)) a_nil))))
    (s_cons (s_expr (e_append (ev 2) (a_cons (f_tuple bt_tuple rfl T.n_tuple (a_cons (e_lc (own := [((PySem.Str.ofString "at"), 10)]) rfl sc.nd (blkOk_by (by first | rfl | kernel_rfl | with_unfolding_all rfl)) rfl (i_range1 rfl T.n_range (a_cons (ev 5) a_nil)) (fun s H C cl fp => (g_name (i := 10) sc.nd rfl (by first | exact .inl rfl | exact .inr rfl))) (fun s H C cl fp => ts_nil) (fun s H C cl fp => (e_tup (a_cons (x_ix hr (ev 7) (b_mulW e_int (ev 10))) (a_cons (x_ix hr (ev 7) (b_add (b_mulW e_int (ev 10)) e_int)) a_nil))))) a_nil)) a_nil)))
    (s_cons (s_expr (e_append (ev 3) (a_cons (f_tuple bt_tuple rfl T.n_tuple (a_cons (e_lc (own := [((PySem.Str.ofString "at"), 10)]) rfl sc.nd (blkOk_by (by first | rfl | kernel_rfl | with_unfolding_all rfl)) rfl (i_range1 rfl T.n_range (a_cons (ev 5) a_nil)) (fun s H C cl fp => (g_name (i := 10) sc.nd rfl (by first | exact .inl rfl | exact .inr rfl))) (fun s H C cl fp => ts_nil) (fun s H C cl fp => (f_tuple bt_tuple rfl T.n_tuple (a_cons (e_slice (ev 8) (o_some (b_mulW (ev 10) (ev 6))) (o_some (b_add (b_mulW (ev 10) (ev 6)) (ev 6)))) a_nil)))) a_nil)) a_nil)))
    s_nil)))))
    (s_cons (s_ret (e_tup (a_cons (f_tuple bt_tuple rfl T.n_tuple (a_cons (e_lc (own := [((PySem.Str.ofString "own"), 9)]) rfl sc.nd (blkOk_by (by first | rfl | kernel_rfl | with_unfolding_all rfl)) rfl (i_any (ev 1)) (fun s H C cl fp => (g_name (i := 9) sc.nd rfl (by first | exact .inl rfl | exact .inr rfl))) (fun s H C cl fp => ts_nil) (fun s H C cl fp => (ix_B T.c_ANSWERS (e_globB rfl T.c_ANSWERS) (ev 9)))) a_nil)) (a_cons (f_tuple bt_tuple rfl T.n_tuple (a_cons (ev 2) a_nil)) (a_cons (f_tuple bt_tuple rfl T.n_tuple (a_cons (ev 3) a_nil)) a_nil)))))
    s_nil))))))))
theorem ok_keeper_read (F : Fun K (PySem.Str.ofString "keeper_read") (PySem.Str.ofString "keeper_read") st_keeper_read a_keeper_read fd_keeper_read) (F_Reader___init__ : FnOk P w K mg base (L2.CX P w) 2 a_Reader___init__ fd_Reader___init__ ps_Reader___init__ (spF ⟨w, K, mg⟩ 2 f_Reader___init__)) (B_Reader___init__ : Binds K fd_Reader___init__ ps_Reader___init__ []) (F_keeper_lines_read : FnOk P w K mg base (L2.CX P w) 6 a_keeper_lines_read fd_keeper_lines_read ps_keeper_lines_read (spF ⟨w, K, mg⟩ 1 f_keeper_lines_read)) (B_keeper_lines_read : Binds K fd_keeper_lines_read ps_keeper_lines_read []) (F_Reader_end : FnOk P w K mg base (L2.CX P w) 2 a_Reader_end fd_Reader_end ps_Reader_end (spF ⟨w, K, mg⟩ 1 f_Reader_end)) (B_Reader_end : Binds K fd_Reader_end ps_Reader_end []) (F_is_keeper : FnOk P w K mg base (L2.CX P w) 5 a_is_keeper fd_is_keeper ps_is_keeper (spF ⟨w, K, mg⟩ 1 f_is_keeper)) (B_is_keeper : Binds K fd_is_keeper ps_is_keeper []) : FnOk P w K mg base (L2.CX P w) 7 a_keeper_read fd_keeper_read ps_keeper_read (spF ⟨w, K, mg⟩ 1 f_keeper_read) := by
  have sc := sc_keeper_read
  refine fn_ok F sc rfl (by decide) fun cdv A outer s H E hr => ?_
  exact (s_cons (s_set (i := 1) sc.nd rfl (by first | exact .inl rfl | exact .inr rfl) (e_make T.mki_Reader F_Reader___init__ (hr.mono (by first | decide | omega)) B_Reader___init__ tkD T.g_Reader (len_cons len_nil) rfl (a_cons (ev 0) a_nil)))
    (s_cons (s_set (i := 2) sc.nd rfl (by first | exact .inl rfl | exact .inr rfl) (e_call F_keeper_lines_read (hr.mono (by first | decide | omega)) T.g_keeper_lines_read T.k_keeper_lines_read B_keeper_lines_read tkD (len_cons len_nil) rfl (a_cons (ev 1) a_nil)))
    (s_cons (s_expr (e_mtO0 (ev 1) T.cl_Reader T.gm_Reader_end F_Reader_end (hr.mono (by first | decide | omega)) B_Reader_end tkD T.g_Reader))
    (s_cons (s_if (t_not (t_val (e_call F_is_keeper (hr.mono (by first | decide | omega)) T.g_is_keeper T.k_is_keeper B_is_keeper tkD (len_cons len_nil) rfl (a_cons (ev 2) a_nil)))) (s_cons (s_raise0 rfl tkD PySem.F.excBase_ValueError T.x_Unfit T.g_Unfit T.k_Unfit (raises_own T.b_Unfit T.t_Unfit) rfl)
    s_nil) s_nil)
    (s_cons (s_ret (ev 2))
    s_nil)))))
theorem ok_pair_read (F : Fun K (PySem.Str.ofString "pair_read") (PySem.Str.ofString "pair_read") st_pair_read a_pair_read fd_pair_read) (F_Reader___init__ : FnOk P w K mg base (L2.CX P w) 2 a_Reader___init__ fd_Reader___init__ ps_Reader___init__ (spF ⟨w, K, mg⟩ 2 f_Reader___init__)) (B_Reader___init__ : Binds K fd_Reader___init__ ps_Reader___init__ []) (F_keeper_lines_read : FnOk P w K mg base (L2.CX P w) 6 a_keeper_lines_read fd_keeper_lines_read ps_keeper_lines_read (spF ⟨w, K, mg⟩ 1 f_keeper_lines_read)) (B_keeper_lines_read : Binds K fd_keeper_lines_read ps_keeper_lines_read []) (F_Reader_end : FnOk P w K mg base (L2.CX P w) 2 a_Reader_end fd_Reader_end ps_Reader_end (spF ⟨w, K, mg⟩ 1 f_Reader_end)) (B_Reader_end : Binds K fd_Reader_end ps_Reader_end []) (F_is_pair : FnOk P w K mg base (L2.CX P w) 6 a_is_pair fd_is_pair ps_is_pair (spF ⟨w, K, mg⟩ 1 f_is_pair)) (B_is_pair : Binds K fd_is_pair ps_is_pair []) : FnOk P w K mg base (L2.CX P w) 7 a_pair_read fd_pair_read ps_pair_read (spF ⟨w, K, mg⟩ 1 f_pair_read) := by
  have sc := sc_pair_read
  refine fn_ok F sc rfl (by decide) fun cdv A outer s H E hr => ?_
  exact (s_cons (s_set (i := 1) sc.nd rfl (by first | exact .inl rfl | exact .inr rfl) (e_make T.mki_Reader F_Reader___init__ (hr.mono (by first | decide | omega)) B_Reader___init__ tkD T.g_Reader (len_cons len_nil) rfl (a_cons (ev 0) a_nil)))
    (s_cons (s_set (i := 2) sc.nd rfl (by first | exact .inl rfl | exact .inr rfl) (e_call F_keeper_lines_read (hr.mono (by first | decide | omega)) T.g_keeper_lines_read T.k_keeper_lines_read B_keeper_lines_read tkD (len_cons len_nil) rfl (a_cons (ev 1) a_nil)))
    (s_cons (s_set (i := 3) sc.nd rfl (by first | exact .inl rfl | exact .inr rfl) (e_call F_keeper_lines_read (hr.mono (by first | decide | omega)) T.g_keeper_lines_read T.k_keeper_lines_read B_keeper_lines_read tkD (len_cons len_nil) rfl (a_cons (ev 1) a_nil)))
    (s_cons (s_expr (e_mtO0 (ev 1) T.cl_Reader T.gm_Reader_end F_Reader_end (hr.mono (by first | decide | omega)) B_Reader_end tkD T.g_Reader))
    (s_cons (s_if (t_not (t_val (e_call F_is_pair (hr.mono (by first | decide | omega)) T.g_is_pair T.k_is_pair B_is_pair tkD (len_cons len_nil) rfl (a_cons (e_tup (a_cons (ev 2) (a_cons (ev 3) a_nil))) a_nil)))) (s_cons (s_raise0 rfl tkD PySem.F.excBase_ValueError T.x_Unfit T.g_Unfit T.k_Unfit (raises_own T.b_Unfit T.t_Unfit) rfl)
    s_nil) s_nil)
    (s_cons (s_ret (e_tup (a_cons (ev 2) (a_cons (ev 3) a_nil))))
    s_nil))))))
theorem ok__law_box (F : Fun K (PySem.Str.ofString "_law_box") (PySem.Str.ofString "_law_box") st__law_box a__law_box fd__law_box) : FnOk P w K mg base (L2.CX P w) 1 a__law_box fd__law_box ps__law_box (spF ⟨w, K, mg⟩ 2 f__law_box) := by
  have sc := sc__law_box
  refine fn_ok F sc rfl (by decide) fun cdv A outer s H E hr => ?_
  exact (s_cons (s_set (i := 2) sc.nd rfl (by first | exact .inl rfl | exact .inr rfl) (e_ife (t_cmpW w_lt (by with_unfolding_all rfl) (ev 1) (f_len rfl T.n_len (a_cons (ev 0) a_nil))) (x_ix hr (ev 0) (ev 1)) e_int))
    (s_cons (s_ret (e_lst (a_cons (b_mulW (f_abs bt_abs rfl T.n_abs (a_cons (ev 2) a_nil)) (f_int bt_int rfl T.n_int (a_cons (e_cmpW w_ge (by with_unfolding_all rfl) (f_abs bt_abs rfl T.n_abs (a_cons (ev 2) a_nil)) (b_pow e_int e_int)) a_nil))) (a_cons (b_add (b_add (b_mod (f_int bt_int rfl T.n_int (a_cons (ev 2) a_nil)) e_int) (b_mulW e_int (ev 1))) e_int) (a_cons e_int a_nil)))))
    s_nil))
theorem ok__law_take (F : Fun K (PySem.Str.ofString "_law_take") (PySem.Str.ofString "_law_take") st__law_take a__law_take fd__law_take) : FnOk P w K mg base (L2.CX P w) 1 a__law_take fd__law_take ps__law_take (spF ⟨w, K, mg⟩ 2 f__law_take) := by
  have sc := sc__law_take
  refine fn_ok F sc rfl (by decide) fun cdv A outer s H E hr => ?_
  exact (s_cons (s_if (t_cmpW w_gt (by with_unfolding_all rfl) (x_ix hr (ev 0) e_int) e_int) (s_cons (s_set (i := 5) sc.nd rfl (by first | exact .inl rfl | exact .inr rfl) (b_mod (f_int bt_int rfl T.n_int (a_cons (x_ix hr (ev 0) e_int) a_nil)) (ev 1)))
    (s_cons (s_asg (b_fdv (x_ix hr (ev 0) e_int) (ev 1)) (g_sub (W := WF) (hu_of hr) (ev 0) e_int))
    (s_cons (s_ret (ev 5))
    s_nil))) s_nil)
    (s_cons (s_asg (b_add (x_ix hr (ev 0) e_int) e_int) (g_sub (W := WF) (hu_of hr) (ev 0) e_int))
    (s_cons (s_set (i := 2) sc.nd rfl (by first | exact .inl rfl | exact .inr rfl) (b_mod (f_int bt_int rfl T.n_int (a_cons (b_mulW (b_add (x_ix hr (ev 0) e_int) (b_mulW e_int (x_ix hr (ev 0) e_int))) (b_add e_int (x_ix hr (ev 0) e_int))) a_nil)) e_int))
    (s_cons (s_set (i := 3) sc.nd rfl (by first | exact .inl rfl | exact .inr rfl) (b_add (b_mod (f_int bt_int rfl T.n_int (a_cons (ev 2) a_nil)) e_int) e_int))
    (s_cons (s_set (i := 4) sc.nd rfl (by first | exact .inl rfl | exact .inr rfl) (b_mod (f_int bt_int rfl T.n_int (a_cons (b_mulW (b_add (b_add (ev 2) (x_ix hr (ev 0) e_int)) (b_fdv (x_ix hr (ev 0) e_int) e_int)) (ev 3)) a_nil)) e_int))
    (s_cons (s_ret (b_mod (f_int bt_int rfl T.n_int (a_cons (b_fdv (b_mod (f_int bt_int rfl T.n_int (a_cons (b_add (b_mulW (ev 4) e_int) (ev 2)) a_nil)) e_int) e_int) a_nil)) (ev 1)))
    s_nil))))))
theorem ok__law_cells (F : Fun K (PySem.Str.ofString "_law_cells") (PySem.Str.ofString "_law_cells") st__law_cells a__law_cells fd__law_cells) : FnOk P w K mg base (L2.CX P w) 1 a__law_cells fd__law_cells ps__law_cells (spF ⟨w, K, mg⟩ 2 f__law_cells) := by
  have sc := sc__law_cells
  refine fn_ok F sc rfl (by decide) fun cdv A outer s H E hr => ?_
  exact (s_cons (s_set (i := 2) sc.nd rfl (by first | exact .inl rfl | exact .inr rfl) (e_or (f_list rfl bt_list rfl T.n_list (a_cons (e_slice (ev 0) o_none (o_some (ev 1))) a_nil)) (e_one (e_lst (a_cons e_int a_nil)))))
    (s_cons (s_for poD rfl (i_enum0 rfl T.n_enumerate (e_slice (ev 0) (o_some (ev 1)) (o_some e_int))) (g_tup rfl (gs_c (g_name (i := 3) sc.nd rfl (by first | exact .inl rfl | exact .inr rfl)) (gs_c (g_name (i := 4) sc.nd rfl (by first | exact .inl rfl | exact .inr rfl)) gs_nil))) (s_cons (s_set (i := 5) sc.nd rfl (by first | exact .inl rfl | exact .inr rfl) (b_mod (f_int bt_int rfl T.n_int (a_cons (ev 3) a_nil)) (ev 1)))
    (s_cons (s_asg (b_add (x_ix hr (ev 2) (ev 5)) (b_mulW (ev 4) (b_add (ev 3) e_int))) (g_sub (W := WF) (hu_of hr) (ev 2) (ev 5)))
    s_nil)))
    (s_cons (s_ret (ev 2))
    s_nil)))
theorem ok__law_lists (F : Fun K (PySem.Str.ofString "_law_lists") (PySem.Str.ofString "_law_lists") st__law_lists a__law_lists fd__law_lists) (B__law_lists : Binds K fd__law_lists ps__law_lists []) : FnOk P w K mg base (L2.CX P w) 41 a__law_lists fd__law_lists ps__law_lists (spF ⟨w, K, mg⟩ 1 f__law_lists) := by
  have sc := sc__law_lists
  refine fn_recK (m := m__law_lists) rfl 1 (fun j fm Fself => ?_) 40
  refine fn_ok F sc rfl (by decide) fun cdv A outer s H E hr => ?_
  exact (s_cons (s_ret (e_ife (t_val (f_isi bt_isi rfl T.n_isinstance (a_cons (ev 0) (a_cons (e_tup (a_cons (e_ty (n := .list) rfl T.n_list bt_list) (a_cons (e_ty (n := .tuple) rfl T.n_tuple bt_tuple) a_nil))) a_nil)))) (e_lc (own := [((PySem.Str.ofString "bit"), 1)]) rfl sc.nd (blkOk_by (by first | rfl | kernel_rfl | with_unfolding_all rfl)) rfl (i_any (ev 0)) (fun s H C cl fp => (g_name (i := 1) sc.nd rfl (by first | exact .inl rfl | exact .inr rfl))) (fun s H C cl fp => ts_nil) (fun s H C cl fp => (e_call Fself hr T.g__law_lists T.k__law_lists B__law_lists tkF (len_cons len_nil) rfl (a_cons (ev 1) a_nil)))) (ev 0)))
    s_nil)
theorem ok__law_same (F : Fun K (PySem.Str.ofString "_law_same") (PySem.Str.ofString "_law_same") st__law_same a__law_same fd__law_same) (B__law_same : Binds K fd__law_same ps__law_same []) : FnOk P w K mg base (L2.CX P w) 41 a__law_same fd__law_same ps__law_same (spF ⟨w, K, mg⟩ 2 f__law_same) := by
  have sc := sc__law_same
  refine fn_recK (m := m__law_same) rfl 1 (fun j fm Fself => ?_) 40
  refine fn_ok F sc rfl (by decide) fun cdv A outer s H E hr => ?_
  exact (s_cons (s_if (t_val (f_isi bt_isi rfl T.n_isinstance (a_cons (ev 1) (a_cons (e_tup (a_cons (e_ty (n := .list) rfl T.n_list bt_list) (a_cons (e_ty (n := .tuple) rfl T.n_tuple bt_tuple) a_nil))) a_nil)))) (s_cons (s_if (t_pw (tw_or (t_cmpW (w_neA hr) (by with_unfolding_all rfl) (f_isi bt_isi rfl T.n_isinstance (a_cons (ev 0) (a_cons (e_ty (n := .list) rfl T.n_list bt_list) a_nil))) (f_isi bt_isi rfl T.n_isinstance (a_cons (ev 1) (a_cons (e_ty (n := .list) rfl T.n_list bt_list) a_nil)))) (tw_or1 (t_cmpW (w_neA hr) (by with_unfolding_all rfl) (f_isi bt_isi rfl T.n_isinstance (a_cons (ev 0) (a_cons (e_ty (n := .tuple) rfl T.n_tuple bt_tuple) a_nil))) (f_isi bt_isi rfl T.n_isinstance (a_cons (ev 1) (a_cons (e_ty (n := .tuple) rfl T.n_tuple bt_tuple) a_nil))))))) (s_cons (s_ret e_bl)
    s_nil) s_nil)
    (s_cons (s_ret (e_and (e_cmpW (w_eqA hr) (by with_unfolding_all rfl) (f_len rfl T.n_len (a_cons (ev 0) a_nil)) (f_len rfl T.n_len (a_cons (ev 1) a_nil))) (e_one (f_all rfl bt_all rfl T.n_all (a_cons (e_lc (own := [((PySem.Str.ofString "mine_so"), 2), ((PySem.Str.ofString "own"), 3)]) rfl sc.nd (blkOk_by (by first | rfl | kernel_rfl | with_unfolding_all rfl)) rfl (i_zip rfl T.n_zip (a_cons (ev 0) (a_cons (ev 1) a_nil))) (fun s H C cl fp => (g_tup rfl (gs_c (g_name (i := 2) sc.nd rfl (by first | exact .inl rfl | exact .inr rfl)) (gs_c (g_name (i := 3) sc.nd rfl (by first | exact .inl rfl | exact .inr rfl)) gs_nil)))) (fun s H C cl fp => ts_nil) (fun s H C cl fp => (e_call Fself hr T.g__law_same T.k__law_same B__law_same tkF (len_cons (len_cons len_nil)) rfl (a_cons (ev 2) (a_cons (ev 3) a_nil))))) a_nil)))))
    s_nil)) s_nil)
    (s_cons (s_if (t_pw (tw_or (t_cmpW w_isB (by with_unfolding_all rfl) (ev 1) e_non) (tw_or1 (t_val (f_isi bt_isi rfl T.n_isinstance (a_cons (ev 1) (a_cons (e_tup (a_cons (e_ty (n := .bool) rfl T.n_bool bt_bool) (a_cons (e_ty (n := .str) rfl T.n_str bt_str) a_nil))) a_nil))))))) (s_cons (s_ret (e_and (e_cmpW (w_eqA hr) (by with_unfolding_all rfl) (ev 0) (ev 1)) (e_and (e_cmpW (w_eqA hr) (by with_unfolding_all rfl) (f_isi bt_isi rfl T.n_isinstance (a_cons (ev 0) (a_cons (e_ty (n := .bool) rfl T.n_bool bt_bool) a_nil))) (f_isi bt_isi rfl T.n_isinstance (a_cons (ev 1) (a_cons (e_ty (n := .bool) rfl T.n_bool bt_bool) a_nil)))) (e_one (e_cmpW (w_eqA hr) (by with_unfolding_all rfl) (e_cmpW w_isB (by with_unfolding_all rfl) (ev 0) e_non) (e_cmpW w_isB (by with_unfolding_all rfl) (ev 1) e_non))))))
    s_nil) s_nil)
    (s_cons (s_ret (e_and (f_isi bt_isi rfl T.n_isinstance (a_cons (ev 0) (a_cons (e_ty (n := .int) rfl T.n_int bt_int) a_nil))) (e_and (e_not (f_isi bt_isi rfl T.n_isinstance (a_cons (ev 0) (a_cons (e_ty (n := .bool) rfl T.n_bool bt_bool) a_nil)))) (e_one (e_cmpW (w_eqA hr) (by with_unfolding_all rfl) (ev 0) (ev 1))))))
    s_nil)))
theorem ok__law_even (F : Fun K (PySem.Str.ofString "_law_even") (PySem.Str.ofString "_law_even") st__law_even a__law_even fd__law_even) : FnOk P w K mg base (L2.CX P w) 1 a__law_even fd__law_even ps__law_even (spF ⟨w, K, mg⟩ 0 f__law_even) := by
  have sc := sc__law_even
  refine fn_ok F sc rfl (by decide) fun cdv A outer s H E hr => ?_
  exact (s_cons (s_ret (e_tup (a_cons (e_tup (a_cons (e_tup (a_cons e_int a_nil)) (a_cons (e_tup (a_cons e_int a_nil)) a_nil))) (a_cons (e_tup (a_cons e_int a_nil)) a_nil))))
    s_nil)
theorem ok__law_flip (F : Fun K (PySem.Str.ofString "_law_flip") (PySem.Str.ofString "_law_flip") st__law_flip a__law_flip fd__law_flip) : FnOk P w K mg base (L2.CX P w) 1 a__law_flip fd__law_flip ps__law_flip (spF ⟨w, K, mg⟩ 0 f__law_flip) := by
  have sc := sc__law_flip
  refine fn_ok F sc rfl (by decide) fun cdv A outer s H E hr => ?_
  exact (s_cons (s_ret (e_tup (a_cons (e_tup (a_cons e_bl (a_cons e_bl a_nil))) (a_cons (e_tup (a_cons (e_tup (a_cons (e_tup (a_cons e_int (a_cons e_int a_nil))) a_nil)) (a_cons (e_tup (a_cons (e_tup (a_cons e_int (a_cons e_int a_nil))) a_nil)) a_nil))) (a_cons (e_tup (a_cons (e_tup (a_cons (e_tup (a_cons e_int a_nil)) a_nil)) (a_cons (e_tup (a_cons (e_tup (a_cons e_int a_nil)) a_nil)) a_nil))) a_nil)))))
    s_nil)
theorem ok__law_lead (F : Fun K (PySem.Str.ofString "_law_lead") (PySem.Str.ofString "_law_lead") st__law_lead a__law_lead fd__law_lead) : FnOk P w K mg base (L2.CX P w) 1 a__law_lead fd__law_lead ps__law_lead (spF ⟨w, K, mg⟩ 0 f__law_lead) := by
  have sc := sc__law_lead
  refine fn_ok F sc rfl (by decide) fun cdv A outer s H E hr => ?_
  exact (s_cons (s_ret (e_tup (a_cons (e_tup (a_cons e_bl (a_cons e_bl a_nil))) (a_cons (e_tup (a_cons (e_tup (a_cons (e_tup (a_cons e_int (a_cons e_int a_nil))) a_nil)) (a_cons (e_tup (a_cons (e_tup (a_cons e_int (a_cons e_int a_nil))) a_nil)) a_nil))) (a_cons (e_tup (a_cons (e_tup (a_cons (e_tup (a_cons e_int a_nil)) a_nil)) (a_cons (e_tup (a_cons (e_tup (a_cons e_int a_nil)) a_nil)) a_nil))) a_nil)))))
    s_nil)
theorem ok__law_hear (F : Fun K (PySem.Str.ofString "_law_hear") (PySem.Str.ofString "_law_hear") st__law_hear a__law_hear fd__law_hear) : FnOk P w K mg base (L2.CX P w) 1 a__law_hear fd__law_hear ps__law_hear (spF ⟨w, K, mg⟩ 0 f__law_hear) := by
  have sc := sc__law_hear
  refine fn_ok F sc rfl (by decide) fun cdv A outer s H E hr => ?_
  exact (s_cons (s_ret (e_tup (a_cons (e_tup (a_cons e_bl (a_cons e_bl a_nil))) (a_cons (e_tup (a_cons (e_tup (a_cons (e_tup (a_cons e_int (a_cons e_int a_nil))) a_nil)) (a_cons (e_tup (a_cons (e_tup (a_cons e_int (a_cons e_int a_nil))) a_nil)) a_nil))) (a_cons (e_tup (a_cons (e_tup (a_cons (e_tup (a_cons e_int (a_cons e_int a_nil))) a_nil)) (a_cons (e_tup (a_cons (e_tup (a_cons e_int (a_cons e_int a_nil))) a_nil)) a_nil))) a_nil)))))
    s_nil)
theorem ok__law_heard (F : Fun K (PySem.Str.ofString "_law_heard") (PySem.Str.ofString "_law_heard") st__law_heard a__law_heard fd__law_heard) (F_machine_read : FnOk P w K mg base (L2.CX P w) 6 a_machine_read fd_machine_read ps_machine_read (spF ⟨w, K, mg⟩ 1 f_machine_read)) (B_machine_read : Binds K fd_machine_read ps_machine_read []) (F_run_read : FnOk P w K mg base (L2.CX P w) 7 a_run_read fd_run_read ps_run_read (spF ⟨w, K, mg⟩ 1 f_run_read)) (B_run_read : Binds K fd_run_read ps_run_read []) (F_keeper_read : FnOk P w K mg base (L2.CX P w) 7 a_keeper_read fd_keeper_read ps_keeper_read (spF ⟨w, K, mg⟩ 1 f_keeper_read)) (B_keeper_read : Binds K fd_keeper_read ps_keeper_read []) (F_pair_read : FnOk P w K mg base (L2.CX P w) 7 a_pair_read fd_pair_read ps_pair_read (spF ⟨w, K, mg⟩ 1 f_pair_read)) (B_pair_read : Binds K fd_pair_read ps_pair_read []) : FnOk P w K mg base (L2.CX P w) 8 a__law_heard fd__law_heard ps__law_heard (spF ⟨w, K, mg⟩ 2 f__law_heard) := by
  have sc := sc__law_heard
  refine fn_ok F sc rfl (by decide) fun cdv A outer s H E hr => ?_
  exact (s_cons (s_try (cs := ["BadLine", "Unfit"]) (l := [⟨"BadLine", (some 2), (fun c fs => mSet 3 (mXL (xCons (xC (.str "line")) (xCons (xAt "BadLine" "line") (xCons (xIsi "BadLine" true) xNil))) c fs))⟩, ⟨"Unfit", (some 2), (fun c fs => mSet 3 (mXL (xCons (xC (.str "unfit")) (xCons (xIsi "Unfit" true) xNil)) c fs))⟩]) T.ek rfl rfl sc.nd tkD (fun W1 pn xe tk1 po1 => (s_cons (s_set (i := 3) sc.nd rfl (by first | exact .inl rfl | exact .inr rfl) (e_callV (np := 1) hr tk1 (tb_cons (by first | decide | omega) F_machine_read T.g_machine_read T.k_machine_read B_machine_read (tb_cons (by first | decide | omega) F_run_read T.g_run_read T.k_run_read B_run_read (tb_cons (by first | decide | omega) F_keeper_read T.g_keeper_read T.k_keeper_read B_keeper_read (tb_cons (by first | decide | omega) F_pair_read T.g_pair_read T.k_pair_read B_pair_read tb_nil)))) (x_ix hr (e_tup (a_cons (e_globF rfl T.g_machine_read) (a_cons (e_globF rfl T.g_run_read) (a_cons (e_globF rfl T.g_keeper_read) (a_cons (e_globF rfl T.g_pair_read) a_nil))))) (ev 0)) (a_cons (ev 1) a_nil)))
    s_nil)) (ClsOk.named (i := 2) (names_of rfl T.g_BadLine) rfl rfl (fun a oe cls d pn hz hf => (xs_set (q := 3) sc.nd rfl (by first | exact .inl rfl | exact .inr rfl) (xe_lst (xa_cons x_str (xa_cons (x_attr (j := 2) T.g_BadLine T.at_BadLine rfl (by first | exact .inl rfl | exact .inr (.inl rfl) | exact .inr (.inr rfl)) hz hf) (xa_cons (x_isi (j := 2) T.g_BadLine T.ie_BadLine T.iv_BadLine_ValueError rfl T.n_isinstance rfl T.n_ValueError bt_ValueError bt_isi rfl (by first | exact .inl rfl | exact .inr (.inl rfl) | exact .inr (.inr rfl)) hz hf) xa_nil)))))) (ClsOk.named (i := 2) (names_of rfl T.g_Unfit) rfl rfl (fun a oe cls d pn hz hf => (xs_set (q := 3) sc.nd rfl (by first | exact .inl rfl | exact .inr rfl) (xe_lst (xa_cons x_str (xa_cons (x_isi (j := 2) T.g_Unfit T.ie_Unfit T.iv_Unfit_ValueError rfl T.n_isinstance rfl T.n_ValueError bt_ValueError bt_isi rfl (by first | exact .inl rfl | exact .inr (.inl rfl) | exact .inr (.inr rfl)) hz hf) xa_nil))))) ClsOk.nil)))
    (s_cons (s_ret (ev 3))
    s_nil))
theorem ok__law_flip_text (F : Fun K (PySem.Str.ofString "_law_flip_text") (PySem.Str.ofString "_law_flip_text") st__law_flip_text a__law_flip_text fd__law_flip_text) : FnOk P w K mg base (L2.CX P w) 1 a__law_flip_text fd__law_flip_text ps__law_flip_text (spF ⟨w, K, mg⟩ 0 f__law_flip_text) := by
  have sc := sc__law_flip_text
  refine fn_ok F sc rfl (by decide) fun cdv A outer s H E hr => ?_
  exact (s_cons (s_ret e_str)
    s_nil)
theorem ok__law_two_text (F : Fun K (PySem.Str.ofString "_law_two_text") (PySem.Str.ofString "_law_two_text") st__law_two_text a__law_two_text fd__law_two_text) : FnOk P w K mg base (L2.CX P w) 1 a__law_two_text fd__law_two_text ps__law_two_text (spF ⟨w, K, mg⟩ 0 f__law_two_text) := by
  have sc := sc__law_two_text
  refine fn_ok F sc rfl (by decide) fun cdv A outer s H E hr => ?_
  exact (s_cons (s_ret e_str)
    s_nil)
theorem ok__law_always_right (F : Fun K (PySem.Str.ofString "_law_always_right") (PySem.Str.ofString "_law_always_right") st__law_always_right a__law_always_right fd__law_always_right) (F_machine_text : FnOk P w K mg base (L2.CX P w) 2 a_machine_text fd_machine_text ps_machine_text (spF ⟨w, K, mg⟩ 1 f_machine_text)) (B_machine_text : Binds K fd_machine_text ps_machine_text []) (F__law_even : FnOk P w K mg base (L2.CX P w) 1 a__law_even fd__law_even ps__law_even (spF ⟨w, K, mg⟩ 0 f__law_even)) (B__law_even : Binds K fd__law_even ps__law_even []) (F__law_heard : FnOk P w K mg base (L2.CX P w) 8 a__law_heard fd__law_heard ps__law_heard (spF ⟨w, K, mg⟩ 2 f__law_heard)) (B__law_heard : Binds K fd__law_heard ps__law_heard []) (F_run_text : FnOk P w K mg base (L2.CX P w) 2 a_run_text fd_run_text ps_run_text (spF ⟨w, K, mg⟩ 1 f_run_text)) (B_run_text : Binds K fd_run_text ps_run_text []) (F_keeper_text : FnOk P w K mg base (L2.CX P w) 2 a_keeper_text fd_keeper_text ps_keeper_text (spF ⟨w, K, mg⟩ 1 f_keeper_text)) (B_keeper_text : Binds K fd_keeper_text ps_keeper_text []) (F__law_flip : FnOk P w K mg base (L2.CX P w) 1 a__law_flip fd__law_flip ps__law_flip (spF ⟨w, K, mg⟩ 0 f__law_flip)) (B__law_flip : Binds K fd__law_flip ps__law_flip []) (F__law_flip_text : FnOk P w K mg base (L2.CX P w) 1 a__law_flip_text fd__law_flip_text ps__law_flip_text (spF ⟨w, K, mg⟩ 0 f__law_flip_text)) (B__law_flip_text : Binds K fd__law_flip_text ps__law_flip_text []) (F_pair_text : FnOk P w K mg base (L2.CX P w) 3 a_pair_text fd_pair_text ps_pair_text (spF ⟨w, K, mg⟩ 1 f_pair_text)) (B_pair_text : Binds K fd_pair_text ps_pair_text []) (F__law_lead : FnOk P w K mg base (L2.CX P w) 1 a__law_lead fd__law_lead ps__law_lead (spF ⟨w, K, mg⟩ 0 f__law_lead)) (B__law_lead : Binds K fd__law_lead ps__law_lead []) (F__law_hear : FnOk P w K mg base (L2.CX P w) 1 a__law_hear fd__law_hear ps__law_hear (spF ⟨w, K, mg⟩ 0 f__law_hear)) (B__law_hear : Binds K fd__law_hear ps__law_hear []) (F__law_two_text : FnOk P w K mg base (L2.CX P w) 1 a__law_two_text fd__law_two_text ps__law_two_text (spF ⟨w, K, mg⟩ 0 f__law_two_text)) (B__law_two_text : Binds K fd__law_two_text ps__law_two_text []) (F__law_same : FnOk P w K mg base (L2.CX P w) 41 a__law_same fd__law_same ps__law_same (spF ⟨w, K, mg⟩ 2 f__law_same)) (B__law_same : Binds K fd__law_same ps__law_same []) : FnOk P w K mg base (L2.CX P w) 42 a__law_always_right fd__law_always_right ps__law_always_right (spF ⟨w, K, mg⟩ 0 f__law_always_right) := by
  have sc := sc__law_always_right
  refine fn_ok F sc rfl (by decide) fun cdv A outer s H E hr => ?_
  exact (s_cons (s_set (i := 0) sc.nd rfl (by first | exact .inl rfl | exact .inr rfl) (e_tup (a_cons (e_tup (a_cons e_int (a_cons e_int a_nil))) (a_cons (e_tup (a_cons e_int (a_cons e_int a_nil))) (a_cons (e_tup (a_cons e_int (a_cons e_int a_nil))) (a_cons (e_tup (a_cons e_int (a_cons e_int a_nil))) a_nil))))))
    (s_cons (s_set (i := 1) sc.nd rfl (by first | exact .inl rfl | exact .inr rfl) (e_lst (a_cons (e_call F_machine_text (hr.mono (by first | decide | omega)) T.g_machine_text T.k_machine_text B_machine_text tkD (len_cons len_nil) rfl (a_cons (e_call0 F__law_even (hr.mono (by first | decide | omega)) T.g__law_even T.k__law_even B__law_even tkD rfl) a_nil)) (a_cons (e_call F__law_heard (hr.mono (by first | decide | omega)) T.g__law_heard T.k__law_heard B__law_heard tkD (len_cons (len_cons len_nil)) rfl (a_cons e_int (a_cons e_str a_nil))) (a_cons (e_call F_run_text (hr.mono (by first | decide | omega)) T.g_run_text T.k_run_text B_run_text tkD (len_cons len_nil) rfl (a_cons (ev 0) a_nil)) (a_cons (e_call F__law_heard (hr.mono (by first | decide | omega)) T.g__law_heard T.k__law_heard B__law_heard tkD (len_cons (len_cons len_nil)) rfl (a_cons e_int (a_cons e_str a_nil))) a_nil))))))
    (s_cons (s_set (i := 2) sc.nd rfl (by first | exact .inl rfl | exact .inr rfl) (e_lst (a_cons e_str (a_cons (e_tup (a_cons (e_tup (a_cons (e_tup (a_cons e_int (a_cons e_int a_nil))) a_nil)) (a_cons (e_tup a_nil) a_nil))) (a_cons e_str (a_cons (e_tup a_nil) a_nil))))))
    (s_cons (s_set (i := 1) sc.nd rfl (by first | exact .inl rfl | exact .inr rfl) (b_add (ev 1) (e_lst (a_cons (e_call F_keeper_text (hr.mono (by first | decide | omega)) T.g_keeper_text T.k_keeper_text B_keeper_text tkD (len_cons len_nil) rfl (a_cons (e_call0 F__law_flip (hr.mono (by first | decide | omega)) T.g__law_flip T.k__law_flip B__law_flip tkD rfl) a_nil)) (a_cons (e_call F__law_heard (hr.mono (by first | decide | omega)) T.g__law_heard T.k__law_heard B__law_heard tkD (len_cons (len_cons len_nil)) rfl (a_cons e_int (a_cons (e_call0 F__law_flip_text (hr.mono (by first | decide | omega)) T.g__law_flip_text T.k__law_flip_text B__law_flip_text tkD rfl) a_nil))) (a_cons (e_call F_pair_text (hr.mono (by first | decide | omega)) T.g_pair_text T.k_pair_text B_pair_text tkD (len_cons len_nil) rfl (a_cons (e_tup (a_cons (e_call0 F__law_lead (hr.mono (by first | decide | omega)) T.g__law_lead T.k__law_lead B__law_lead tkD rfl) (a_cons (e_call0 F__law_hear (hr.mono (by first | decide | omega)) T.g__law_hear T.k__law_hear B__law_hear tkD rfl) a_nil))) a_nil)) a_nil))))))
    (s_cons (s_set (i := 1) sc.nd rfl (by first | exact .inl rfl | exact .inr rfl) (b_add (ev 1) (e_lst (a_cons (e_call F__law_heard (hr.mono (by first | decide | omega)) T.g__law_heard T.k__law_heard B__law_heard tkD (len_cons (len_cons len_nil)) rfl (a_cons e_int (a_cons (e_call0 F__law_two_text (hr.mono (by first | decide | omega)) T.g__law_two_text T.k__law_two_text B__law_two_text tkD rfl) a_nil))) a_nil))))
    (s_cons (s_set (i := 2) sc.nd rfl (by first | exact .inl rfl | exact .inr rfl) (b_add (ev 2) (e_lst (a_cons (e_call0 F__law_flip_text (hr.mono (by first | decide | omega)) T.g__law_flip_text T.k__law_flip_text B__law_flip_text tkD rfl) (a_cons (e_call0 F__law_flip (hr.mono (by first | decide | omega)) T.g__law_flip T.k__law_flip B__law_flip tkD rfl) (a_cons (e_call0 F__law_two_text (hr.mono (by first | decide | omega)) T.g__law_two_text T.k__law_two_text B__law_two_text tkD rfl) (a_cons (e_tup (a_cons (e_call0 F__law_lead (hr.mono (by first | decide | omega)) T.g__law_lead T.k__law_lead B__law_lead tkD rfl) (a_cons (e_call0 F__law_hear (hr.mono (by first | decide | omega)) T.g__law_hear T.k__law_hear B__law_hear tkD rfl) a_nil))) a_nil)))))))
    (s_cons (s_set (i := 1) sc.nd rfl (by first | exact .inl rfl | exact .inr rfl) (b_add (ev 1) (e_lst (a_cons (e_call F__law_heard (hr.mono (by first | decide | omega)) T.g__law_heard T.k__law_heard B__law_heard tkD (len_cons (len_cons len_nil)) rfl (a_cons e_int (a_cons e_str a_nil))) (a_cons (e_call F__law_heard (hr.mono (by first | decide | omega)) T.g__law_heard T.k__law_heard B__law_heard tkD (len_cons (len_cons len_nil)) rfl (a_cons e_int (a_cons e_str a_nil))) (a_cons (e_call F__law_heard (hr.mono (by first | decide | omega)) T.g__law_heard T.k__law_heard B__law_heard tkD (len_cons (len_cons len_nil)) rfl (a_cons e_int (a_cons e_str a_nil))) a_nil))))))
    (s_cons (s_set (i := 1) sc.nd rfl (by first | exact .inl rfl | exact .inr rfl) (b_add (ev 1) (e_lst (a_cons (e_call F__law_heard (hr.mono (by first | decide | omega)) T.g__law_heard T.k__law_heard B__law_heard tkD (len_cons (len_cons len_nil)) rfl (a_cons e_int (a_cons (b_addS (e_call0 F__law_two_text (hr.mono (by first | decide | omega)) T.g__law_two_text T.k__law_two_text B__law_two_text tkD rfl) e_str) a_nil))) a_nil))))
    (s_cons (s_ret (e_call F__law_same (hr.mono (by first | decide | omega)) T.g__law_same T.k__law_same B__law_same tkD (len_cons (len_cons len_nil)) rfl (a_cons (ev 1) (a_cons (b_add (ev 2) (e_lst (a_cons (e_lst (a_cons e_str (a_cons e_int (a_cons e_bl a_nil)))) (a_cons (e_lst (a_cons e_str (a_cons e_bl a_nil))) (a_cons (e_lst (a_cons e_str (a_cons e_int (a_cons e_bl a_nil)))) (a_cons (e_lst (a_cons e_str (a_cons e_int (a_cons e_bl a_nil)))) a_nil)))))) a_nil))))
    s_nil)))))))))
theorem ok__law_told_right (F : Fun K (PySem.Str.ofString "_law_told_right") (PySem.Str.ofString "_law_told_right") st__law_told_right a__law_told_right fd__law_told_right) (F__law_even : FnOk P w K mg base (L2.CX P w) 1 a__law_even fd__law_even ps__law_even (spF ⟨w, K, mg⟩ 0 f__law_even)) (B__law_even : Binds K fd__law_even ps__law_even []) (F__law_flip : FnOk P w K mg base (L2.CX P w) 1 a__law_flip fd__law_flip ps__law_flip (spF ⟨w, K, mg⟩ 0 f__law_flip)) (B__law_flip : Binds K fd__law_flip ps__law_flip []) (F__law_lead : FnOk P w K mg base (L2.CX P w) 1 a__law_lead fd__law_lead ps__law_lead (spF ⟨w, K, mg⟩ 0 f__law_lead)) (B__law_lead : Binds K fd__law_lead ps__law_lead []) (F__law_hear : FnOk P w K mg base (L2.CX P w) 1 a__law_hear fd__law_hear ps__law_hear (spF ⟨w, K, mg⟩ 0 f__law_hear)) (B__law_hear : Binds K fd__law_hear ps__law_hear []) (F_machine_text : FnOk P w K mg base (L2.CX P w) 2 a_machine_text fd_machine_text ps_machine_text (spF ⟨w, K, mg⟩ 1 f_machine_text)) (B_machine_text : Binds K fd_machine_text ps_machine_text []) (F__law_lists : FnOk P w K mg base (L2.CX P w) 41 a__law_lists fd__law_lists ps__law_lists (spF ⟨w, K, mg⟩ 1 f__law_lists)) (B__law_lists : Binds K fd__law_lists ps__law_lists []) (F_machine_read : FnOk P w K mg base (L2.CX P w) 6 a_machine_read fd_machine_read ps_machine_read (spF ⟨w, K, mg⟩ 1 f_machine_read)) (B_machine_read : Binds K fd_machine_read ps_machine_read []) (F_run_text : FnOk P w K mg base (L2.CX P w) 2 a_run_text fd_run_text ps_run_text (spF ⟨w, K, mg⟩ 1 f_run_text)) (B_run_text : Binds K fd_run_text ps_run_text []) (F_run_read : FnOk P w K mg base (L2.CX P w) 7 a_run_read fd_run_read ps_run_read (spF ⟨w, K, mg⟩ 1 f_run_read)) (B_run_read : Binds K fd_run_read ps_run_read []) (F_keeper_text : FnOk P w K mg base (L2.CX P w) 2 a_keeper_text fd_keeper_text ps_keeper_text (spF ⟨w, K, mg⟩ 1 f_keeper_text)) (B_keeper_text : Binds K fd_keeper_text ps_keeper_text []) (F_keeper_read : FnOk P w K mg base (L2.CX P w) 7 a_keeper_read fd_keeper_read ps_keeper_read (spF ⟨w, K, mg⟩ 1 f_keeper_read)) (B_keeper_read : Binds K fd_keeper_read ps_keeper_read []) (F_pair_text : FnOk P w K mg base (L2.CX P w) 3 a_pair_text fd_pair_text ps_pair_text (spF ⟨w, K, mg⟩ 1 f_pair_text)) (B_pair_text : Binds K fd_pair_text ps_pair_text []) (F_pair_read : FnOk P w K mg base (L2.CX P w) 7 a_pair_read fd_pair_read ps_pair_read (spF ⟨w, K, mg⟩ 1 f_pair_read)) (B_pair_read : Binds K fd_pair_read ps_pair_read []) (F__law_flip_text : FnOk P w K mg base (L2.CX P w) 1 a__law_flip_text fd__law_flip_text ps__law_flip_text (spF ⟨w, K, mg⟩ 0 f__law_flip_text)) (B__law_flip_text : Binds K fd__law_flip_text ps__law_flip_text []) (F__law_two_text : FnOk P w K mg base (L2.CX P w) 1 a__law_two_text fd__law_two_text ps__law_two_text (spF ⟨w, K, mg⟩ 0 f__law_two_text)) (B__law_two_text : Binds K fd__law_two_text ps__law_two_text []) (F__law_same : FnOk P w K mg base (L2.CX P w) 41 a__law_same fd__law_same ps__law_same (spF ⟨w, K, mg⟩ 2 f__law_same)) (B__law_same : Binds K fd__law_same ps__law_same []) (KC_machine_text_0_machine : KwC K fd_machine_text ps_machine_text [(PySem.Str.ofString "machine")] 0 1 [0]) (KC_machine_read_0_text : KwC K fd_machine_read ps_machine_read [(PySem.Str.ofString "text")] 0 1 [0]) (KC_run_text_0_run : KwC K fd_run_text ps_run_text [(PySem.Str.ofString "run")] 0 1 [0]) (KC_run_read_0_text : KwC K fd_run_read ps_run_read [(PySem.Str.ofString "text")] 0 1 [0]) (KC_keeper_text_0_keeper : KwC K fd_keeper_text ps_keeper_text [(PySem.Str.ofString "keeper")] 0 1 [0]) (KC_keeper_read_0_text : KwC K fd_keeper_read ps_keeper_read [(PySem.Str.ofString "text")] 0 1 [0]) (KC_pair_text_0_pair : KwC K fd_pair_text ps_pair_text [(PySem.Str.ofString "pair")] 0 1 [0]) (KC_pair_read_0_text : KwC K fd_pair_read ps_pair_read [(PySem.Str.ofString "text")] 0 1 [0]) : FnOk P w K mg base (L2.CX P w) 42 a__law_told_right fd__law_told_right ps__law_told_right (spF ⟨w, K, mg⟩ 0 f__law_told_right) := by
  have sc := sc__law_told_right
  refine fn_ok F sc rfl (by decide) fun cdv A outer s H E hr => ?_
  exact (s_cons (s_par3 (i := 5) (j := 6) (l := 7) rfl sc.nd rfl rfl rfl (by decide) (by decide) (by decide) rfl rfl rfl (a_cons (e_call0 F__law_even (hr.mono (by first | decide | omega)) T.g__law_even T.k__law_even B__law_even tkD rfl) (a_cons (e_call0 F__law_flip (hr.mono (by first | decide | omega)) T.g__law_flip T.k__law_flip B__law_flip tkD rfl) (a_cons (e_tup (a_cons (e_call0 F__law_lead (hr.mono (by first | decide | omega)) T.g__law_lead T.k__law_lead B__law_lead tkD rfl) (a_cons (e_call0 F__law_hear (hr.mono (by first | decide | omega)) T.g__law_hear T.k__law_hear B__law_hear tkD rfl) a_nil))) a_nil))))
    (s_cons (s_set (i := 0) sc.nd rfl (by first | exact .inl rfl | exact .inr rfl) (e_tup (a_cons (e_tup (a_cons e_int (a_cons e_int a_nil))) (a_cons (e_tup (a_cons e_int (a_cons e_int a_nil))) (a_cons (e_tup (a_cons e_int (a_cons e_int a_nil))) (a_cons (e_tup (a_cons e_int (a_cons e_int a_nil))) (a_cons (e_tup (a_cons e_int (a_cons e_int a_nil))) a_nil)))))))
    (s_cons (s_set (i := 1) sc.nd rfl (by first | exact .inl rfl | exact .inr rfl) e_str)
    (s_cons (s_set (i := 2) sc.nd rfl (by first | exact .inl rfl | exact .inr rfl) (e_lst (a_cons (e_kwc0 F_machine_text (hr.mono (by first | decide | omega)) T.g_machine_text T.k_machine_text KC_machine_text_0_machine tkD rfl (kk_cons (e_call F__law_lists (hr.mono (by first | decide | omega)) T.g__law_lists T.k__law_lists B__law_lists tkD (len_cons len_nil) rfl (a_cons (ev 5) a_nil)) kk_nil)) (a_cons (e_kwc0 F_machine_read (hr.mono (by first | decide | omega)) T.g_machine_read T.k_machine_read KC_machine_read_0_text tkD rfl (kk_cons (e_call F_machine_text (hr.mono (by first | decide | omega)) T.g_machine_text T.k_machine_text B_machine_text tkD (len_cons len_nil) rfl (a_cons (ev 5) a_nil)) kk_nil)) (a_cons (e_kwc0 F_run_text (hr.mono (by first | decide | omega)) T.g_run_text T.k_run_text KC_run_text_0_run tkD rfl (kk_cons (e_call F__law_lists (hr.mono (by first | decide | omega)) T.g__law_lists T.k__law_lists B__law_lists tkD (len_cons len_nil) rfl (a_cons (ev 0) a_nil)) kk_nil)) a_nil)))))
    (s_cons (s_set (i := 2) sc.nd rfl (by first | exact .inl rfl | exact .inr rfl) (b_add (ev 2) (e_lst (a_cons (e_kwc0 F_run_read (hr.mono (by first | decide | omega)) T.g_run_read T.k_run_read KC_run_read_0_text tkD rfl (kk_cons (ev 1) kk_nil)) a_nil))))
    (s_cons (s_set (i := 3) sc.nd rfl (by first | exact .inl rfl | exact .inr rfl) (e_lst (a_cons e_str (a_cons (ev 5) (a_cons (ev 1) (a_cons (ev 0) a_nil))))))
    (s_cons (s_set (i := 2) sc.nd rfl (by first | exact .inl rfl | exact .inr rfl) (b_add (ev 2) (e_lst (a_cons (e_kwc0 F_keeper_text (hr.mono (by first | decide | omega)) T.g_keeper_text T.k_keeper_text KC_keeper_text_0_keeper tkD rfl (kk_cons (e_call F__law_lists (hr.mono (by first | decide | omega)) T.g__law_lists T.k__law_lists B__law_lists tkD (len_cons len_nil) rfl (a_cons (ev 6) a_nil)) kk_nil)) (a_cons (e_kwc0 F_keeper_read (hr.mono (by first | decide | omega)) T.g_keeper_read T.k_keeper_read KC_keeper_read_0_text tkD rfl (kk_cons (e_call F_keeper_text (hr.mono (by first | decide | omega)) T.g_keeper_text T.k_keeper_text B_keeper_text tkD (len_cons len_nil) rfl (a_cons (ev 6) a_nil)) kk_nil)) (a_cons (e_kwc0 F_pair_text (hr.mono (by first | decide | omega)) T.g_pair_text T.k_pair_text KC_pair_text_0_pair tkD rfl (kk_cons (e_call F__law_lists (hr.mono (by first | decide | omega)) T.g__law_lists T.k__law_lists B__law_lists tkD (len_cons len_nil) rfl (a_cons (ev 7) a_nil)) kk_nil)) a_nil))))))
    (s_cons (s_set (i := 2) sc.nd rfl (by first | exact .inl rfl | exact .inr rfl) (b_add (ev 2) (e_lst (a_cons (e_kwc0 F_pair_read (hr.mono (by first | decide | omega)) T.g_pair_read T.k_pair_read KC_pair_read_0_text tkD rfl (kk_cons (e_call F_pair_text (hr.mono (by first | decide | omega)) T.g_pair_text T.k_pair_text B_pair_text tkD (len_cons len_nil) rfl (a_cons (ev 7) a_nil)) kk_nil)) a_nil))))
    (s_cons (s_set (i := 3) sc.nd rfl (by first | exact .inl rfl | exact .inr rfl) (b_add (ev 3) (e_lst (a_cons (e_call0 F__law_flip_text (hr.mono (by first | decide | omega)) T.g__law_flip_text T.k__law_flip_text B__law_flip_text tkD rfl) (a_cons (ev 6) (a_cons (e_call0 F__law_two_text (hr.mono (by first | decide | omega)) T.g__law_two_text T.k__law_two_text B__law_two_text tkD rfl) (a_cons (ev 7) a_nil)))))))
    (s_cons (s_set (i := 4) sc.nd rfl (by first | exact .inl rfl | exact .inr rfl) (e_tup (a_cons (e_tup (a_cons e_bl a_nil)) (a_cons (e_tup (a_cons (e_tup (a_cons (e_tup (a_cons e_int (a_cons e_int a_nil))) (a_cons (e_tup (a_cons e_int (a_cons e_int a_nil))) a_nil))) a_nil)) (a_cons (e_tup (a_cons (e_tup (a_cons (e_tup (a_cons e_int (a_cons e_int a_nil))) (a_cons (e_tup (a_cons e_int (a_cons e_int a_nil))) a_nil))) a_nil)) a_nil)))))
    (s_cons (s_set (i := 2) sc.nd rfl (by first | exact .inl rfl | exact .inr rfl) (b_add (ev 2) (e_lst (a_cons (e_call F_keeper_text (hr.mono (by first | decide | omega)) T.g_keeper_text T.k_keeper_text B_keeper_text tkD (len_cons len_nil) rfl (a_cons (ev 4) a_nil)) (a_cons (e_call F_keeper_read (hr.mono (by first | decide | omega)) T.g_keeper_read T.k_keeper_read B_keeper_read tkD (len_cons len_nil) rfl (a_cons e_str a_nil)) (a_cons (e_call F_run_text (hr.mono (by first | decide | omega)) T.g_run_text T.k_run_text B_run_text tkD (len_cons len_nil) rfl (a_cons (e_tup a_nil) a_nil)) a_nil))))))
    (s_cons (s_set (i := 2) sc.nd rfl (by first | exact .inl rfl | exact .inr rfl) (b_add (ev 2) (e_lst (a_cons (e_call F_run_text (hr.mono (by first | decide | omega)) T.g_run_text T.k_run_text B_run_text tkD (len_cons len_nil) rfl (a_cons (e_tup (a_cons (e_tup (a_cons e_int (a_cons e_int a_nil))) a_nil)) a_nil)) a_nil))))
    (s_cons (s_set (i := 3) sc.nd rfl (by first | exact .inl rfl | exact .inr rfl) (b_add (ev 3) (e_lst (a_cons e_str (a_cons (e_tup (a_cons (e_tup (a_cons e_bl a_nil)) (a_cons (e_tup (a_cons (e_tup (a_cons (e_tup (a_cons e_int (a_cons e_int a_nil))) (a_cons (e_tup (a_cons e_int (a_cons e_int a_nil))) a_nil))) a_nil)) (a_cons (e_tup (a_cons (e_tup (a_cons (e_tup (a_cons e_int (a_cons e_int (a_cons e_int a_nil)))) (a_cons (e_tup (a_cons e_int (a_cons e_int (a_cons e_int a_nil)))) a_nil))) a_nil)) a_nil)))) (a_cons e_str a_nil))))))
    (s_cons (s_set (i := 3) sc.nd rfl (by first | exact .inl rfl | exact .inr rfl) (b_add (ev 3) (e_lst (a_cons e_str a_nil))))
    (s_cons (s_set (i := 2) sc.nd rfl (by first | exact .inl rfl | exact .inr rfl) (b_add (ev 2) (e_lst (a_cons (e_call F_run_read (hr.mono (by first | decide | omega)) T.g_run_read T.k_run_read B_run_read tkD (len_cons len_nil) rfl (a_cons e_str a_nil)) (a_cons (e_call F_keeper_read (hr.mono (by first | decide | omega)) T.g_keeper_read T.k_keeper_read B_keeper_read tkD (len_cons len_nil) rfl (a_cons e_str a_nil)) a_nil)))))
    (s_cons (s_set (i := 3) sc.nd rfl (by first | exact .inl rfl | exact .inr rfl) (b_add (ev 3) (e_lst (a_cons (e_tup (a_cons (e_tup (a_cons e_int (a_cons e_int a_nil))) a_nil)) (a_cons (e_tup (a_cons (e_tup (a_cons e_bl a_nil)) (a_cons (e_tup (a_cons (e_tup (a_cons (e_tup (a_cons e_int (a_cons e_int a_nil))) a_nil)) a_nil)) (a_cons (e_tup (a_cons (e_tup (a_cons (e_tup (a_cons e_int a_nil)) a_nil)) a_nil)) a_nil)))) a_nil)))))
    (s_cons (s_set (i := 2) sc.nd rfl (by first | exact .inl rfl | exact .inr rfl) (b_add (ev 2) (e_lst (a_cons (e_call F_keeper_read (hr.mono (by first | decide | omega)) T.g_keeper_read T.k_keeper_read B_keeper_read tkD (len_cons len_nil) rfl (a_cons e_str a_nil)) a_nil))))
    (s_cons (s_set (i := 2) sc.nd rfl (by first | exact .inl rfl | exact .inr rfl) (b_add (ev 2) (e_lst (a_cons (e_call F_machine_text (hr.mono (by first | decide | omega)) T.g_machine_text T.k_machine_text B_machine_text tkD (len_cons len_nil) rfl (a_cons (e_tup (a_cons (e_tup (a_cons (e_tup (a_cons e_int (a_cons e_int a_nil))) (a_cons (e_tup (a_cons e_int (a_cons e_int a_nil))) a_nil))) (a_cons (e_tup (a_cons e_int (a_cons e_int a_nil))) a_nil))) a_nil)) a_nil))))
    (s_cons (s_set (i := 3) sc.nd rfl (by first | exact .inl rfl | exact .inr rfl) (b_add (ev 3) (e_lst (a_cons (e_tup (a_cons (e_tup (a_cons e_bl (a_cons e_bl a_nil))) (a_cons (e_tup (a_cons (e_tup (a_cons (e_tup (a_cons e_int (a_cons e_int a_nil))) a_nil)) (a_cons (e_tup (a_cons (e_tup (a_cons e_int (a_cons e_int a_nil))) a_nil)) a_nil))) (a_cons (e_tup (a_cons (e_tup (a_cons (e_tup (a_cons e_int (a_cons e_int a_nil))) a_nil)) (a_cons (e_tup (a_cons (e_tup (a_cons e_int (a_cons e_int a_nil))) a_nil)) a_nil))) a_nil)))) (a_cons e_str a_nil)))))
    (s_cons (s_ret (e_call F__law_same (hr.mono (by first | decide | omega)) T.g__law_same T.k__law_same B__law_same tkD (len_cons (len_cons len_nil)) rfl (a_cons (ev 2) (a_cons (ev 3) a_nil))))
    s_nil))))))))))))))))))))
theorem ok__law_lines_right (F : Fun K (PySem.Str.ofString "_law_lines_right") (PySem.Str.ofString "_law_lines_right") st__law_lines_right a__law_lines_right fd__law_lines_right) (F__law_flip_text : FnOk P w K mg base (L2.CX P w) 1 a__law_flip_text fd__law_flip_text ps__law_flip_text (spF ⟨w, K, mg⟩ 0 f__law_flip_text)) (B__law_flip_text : Binds K fd__law_flip_text ps__law_flip_text []) (F__law_two_text : FnOk P w K mg base (L2.CX P w) 1 a__law_two_text fd__law_two_text ps__law_two_text (spF ⟨w, K, mg⟩ 0 f__law_two_text)) (B__law_two_text : Binds K fd__law_two_text ps__law_two_text []) (F__law_heard : FnOk P w K mg base (L2.CX P w) 8 a__law_heard fd__law_heard ps__law_heard (spF ⟨w, K, mg⟩ 2 f__law_heard)) (B__law_heard : Binds K fd__law_heard ps__law_heard []) (F__law_same : FnOk P w K mg base (L2.CX P w) 41 a__law_same fd__law_same ps__law_same (spF ⟨w, K, mg⟩ 2 f__law_same)) (B__law_same : Binds K fd__law_same ps__law_same []) : FnOk P w K mg base (L2.CX P w) 42 a__law_lines_right fd__law_lines_right ps__law_lines_right (spF ⟨w, K, mg⟩ 0 f__law_lines_right) := by
  have sc := sc__law_lines_right
  refine fn_ok F sc rfl (by decide) fun cdv A outer s H E hr => ?_
  exact (s_cons (s_asg (e_tup (a_cons (e_call0 F__law_flip_text (hr.mono (by first | decide | omega)) T.g__law_flip_text T.k__law_flip_text B__law_flip_text tkD rfl) (a_cons (e_call0 F__law_two_text (hr.mono (by first | decide | omega)) T.g__law_two_text T.k__law_two_text B__law_two_text tkD rfl) a_nil))) (g_tup rfl (gs_c (g_name (i := 3) sc.nd rfl (by first | exact .inl rfl | exact .inr rfl)) (gs_c (g_name (i := 4) sc.nd rfl (by first | exact .inl rfl | exact .inr rfl)) gs_nil))))
    (s_cons (s_setLc (i := 0) (own := [((PySem.Str.ofString "own"), 5)]) rfl sc.nd rfl rfl rfl (blkOk_by (by first | rfl | kernel_rfl | with_unfolding_all rfl)) rfl (i_any (e_tup (a_cons e_str (a_cons e_str (a_cons e_str (a_cons e_str (a_cons e_str (a_cons e_str (a_cons e_str (a_cons e_str a_nil)))))))))) (fun s H C cl fp => (g_name (i := 5) sc.nd rfl (by first | exact .inl rfl | exact .inr rfl))) (fun s H C cl fp => ts_nil) (fun s H C cl fp => (e_tup (a_cons e_int (a_cons (ev 5) (a_cons e_int a_nil))))))
    (s_cons (s_set (i := 0) sc.nd rfl (by first | exact .inl rfl | exact .inr rfl) (b_addS (ev 0) (e_lc (own := [((PySem.Str.ofString "own"), 5)]) rfl sc.nd (blkOk_by (by first | rfl | kernel_rfl | with_unfolding_all rfl)) rfl (i_any (e_tup (a_cons e_str (a_cons e_str (a_cons e_str (a_cons e_str (a_cons e_str a_nil))))))) (fun s H C cl fp => (g_name (i := 5) sc.nd rfl (by first | exact .inl rfl | exact .inr rfl))) (fun s H C cl fp => ts_nil) (fun s H C cl fp => (e_tup (a_cons e_int (a_cons (b_addS e_str (ev 5)) (a_cons e_int a_nil))))))))
    (s_cons (s_set (i := 0) sc.nd rfl (by first | exact .inl rfl | exact .inr rfl) (b_addS (ev 0) (e_lst (a_cons (e_tup (a_cons e_int (a_cons e_str (a_cons e_int a_nil)))) (a_cons (e_tup (a_cons e_int (a_cons e_str (a_cons e_int a_nil)))) a_nil)))))
    (s_cons (s_set (i := 0) sc.nd rfl (by first | exact .inl rfl | exact .inr rfl) (b_addS (ev 0) (e_lc (own := [((PySem.Str.ofString "own"), 5)]) rfl sc.nd (blkOk_by (by first | rfl | kernel_rfl | with_unfolding_all rfl)) rfl (i_any (e_tup (a_cons e_str (a_cons e_str (a_cons e_str (a_cons e_str (a_cons e_str (a_cons e_str (a_cons e_str a_nil))))))))) (fun s H C cl fp => (g_name (i := 5) sc.nd rfl (by first | exact .inl rfl | exact .inr rfl))) (fun s H C cl fp => ts_nil) (fun s H C cl fp => (e_tup (a_cons e_int (a_cons (b_addS e_str (ev 5)) (a_cons e_int a_nil))))))))
    (s_cons (s_set (i := 0) sc.nd rfl (by first | exact .inl rfl | exact .inr rfl) (b_addS (ev 0) (e_lc (own := [((PySem.Str.ofString "own"), 5)]) rfl sc.nd (blkOk_by (by first | rfl | kernel_rfl | with_unfolding_all rfl)) rfl (i_any (e_tup (a_cons e_str (a_cons e_str a_nil)))) (fun s H C cl fp => (g_name (i := 5) sc.nd rfl (by first | exact .inl rfl | exact .inr rfl))) (fun s H C cl fp => ts_nil) (fun s H C cl fp => (e_tup (a_cons e_int (a_cons (b_addS e_str (ev 5)) (a_cons e_int a_nil))))))))
    (s_cons (s_set (i := 0) sc.nd rfl (by first | exact .inl rfl | exact .inr rfl) (b_addS (ev 0) (e_lc (own := [((PySem.Str.ofString "own"), 5)]) rfl sc.nd (blkOk_by (by first | rfl | kernel_rfl | with_unfolding_all rfl)) rfl (i_any (e_tup (a_cons e_str (a_cons e_str (a_cons e_str (a_cons e_str (a_cons e_str (a_cons e_str (a_cons e_str a_nil))))))))) (fun s H C cl fp => (g_name (i := 5) sc.nd rfl (by first | exact .inl rfl | exact .inr rfl))) (fun s H C cl fp => ts_nil) (fun s H C cl fp => (e_tup (a_cons e_int (a_cons (ev 5) (a_cons e_int a_nil))))))))
    (s_cons (s_set (i := 0) sc.nd rfl (by first | exact .inl rfl | exact .inr rfl) (b_addS (ev 0) (e_lc (own := [((PySem.Str.ofString "own"), 5)]) rfl sc.nd (blkOk_by (by first | rfl | kernel_rfl | with_unfolding_all rfl)) rfl (i_any (e_tup (a_cons e_str (a_cons e_str (a_cons e_str (a_cons e_str (a_cons e_str (a_cons e_str (a_cons e_str a_nil))))))))) (fun s H C cl fp => (g_name (i := 5) sc.nd rfl (by first | exact .inl rfl | exact .inr rfl))) (fun s H C cl fp => ts_nil) (fun s H C cl fp => (e_tup (a_cons e_int (a_cons (b_addS e_str (ev 5)) (a_cons e_int a_nil))))))))
    (s_cons (s_set (i := 0) sc.nd rfl (by first | exact .inl rfl | exact .inr rfl) (b_addS (ev 0) (e_lc (own := [((PySem.Str.ofString "own"), 5)]) rfl sc.nd (blkOk_by (by first | rfl | kernel_rfl | with_unfolding_all rfl)) rfl (i_any (e_tup (a_cons e_str (a_cons e_str (a_cons e_str (a_cons e_str (a_cons e_str a_nil))))))) (fun s H C cl fp => (g_name (i := 5) sc.nd rfl (by first | exact .inl rfl | exact .inr rfl))) (fun s H C cl fp => ts_nil) (fun s H C cl fp => (e_tup (a_cons e_int (a_cons (b_addS e_str (ev 5)) (a_cons e_int a_nil))))))))
    (s_cons (s_set (i := 0) sc.nd rfl (by first | exact .inl rfl | exact .inr rfl) (b_addS (ev 0) (e_lst (a_cons (e_tup (a_cons e_int (a_cons e_str (a_cons e_int a_nil)))) (a_cons (e_tup (a_cons e_int (a_cons e_str (a_cons e_int a_nil)))) a_nil)))))
    (s_cons (s_set (i := 0) sc.nd rfl (by first | exact .inl rfl | exact .inr rfl) (b_addS (ev 0) (e_lc (own := [((PySem.Str.ofString "own"), 5)]) rfl sc.nd (blkOk_by (by first | rfl | kernel_rfl | with_unfolding_all rfl)) rfl (i_any (e_tup (a_cons e_str (a_cons e_str (a_cons e_str (a_cons e_str (a_cons e_str (a_cons e_str a_nil)))))))) (fun s H C cl fp => (g_name (i := 5) sc.nd rfl (by first | exact .inl rfl | exact .inr rfl))) (fun s H C cl fp => ts_nil) (fun s H C cl fp => (e_tup (a_cons e_int (a_cons (ev 5) (a_cons e_int a_nil))))))))
    (s_cons (s_set (i := 0) sc.nd rfl (by first | exact .inl rfl | exact .inr rfl) (b_addS (ev 0) (e_lc (own := [((PySem.Str.ofString "own"), 5)]) rfl sc.nd (blkOk_by (by first | rfl | kernel_rfl | with_unfolding_all rfl)) rfl (i_any (e_tup (a_cons e_str (a_cons e_str (a_cons e_str (a_cons e_str (a_cons e_str a_nil))))))) (fun s H C cl fp => (g_name (i := 5) sc.nd rfl (by first | exact .inl rfl | exact .inr rfl))) (fun s H C cl fp => ts_nil) (fun s H C cl fp => (e_tup (a_cons e_int (a_cons (b_addS e_str (ev 5)) (a_cons e_int a_nil))))))))
    (s_cons (s_set (i := 1) sc.nd rfl (by first | exact .inl rfl | exact .inr rfl) e_str)
    (s_cons (s_set (i := 0) sc.nd rfl (by first | exact .inl rfl | exact .inr rfl) (b_addS (ev 0) (e_lc (own := [((PySem.Str.ofString "own"), 5)]) rfl sc.nd (blkOk_by (by first | rfl | kernel_rfl | with_unfolding_all rfl)) rfl (i_any (e_tup (a_cons e_str (a_cons e_str (a_cons e_str (a_cons e_str (a_cons e_str (a_cons e_str a_nil)))))))) (fun s H C cl fp => (g_name (i := 5) sc.nd rfl (by first | exact .inl rfl | exact .inr rfl))) (fun s H C cl fp => ts_nil) (fun s H C cl fp => (e_tup (a_cons e_int (a_cons (b_addS (ev 1) (ev 5)) (a_cons e_int a_nil))))))))
    (s_cons (s_set (i := 0) sc.nd rfl (by first | exact .inl rfl | exact .inr rfl) (b_addS (ev 0) (e_lc (own := [((PySem.Str.ofString "own"), 5)]) rfl sc.nd (blkOk_by (by first | rfl | kernel_rfl | with_unfolding_all rfl)) rfl (i_any (e_tup (a_cons e_str (a_cons e_str (a_cons e_str (a_cons e_str (a_cons e_str a_nil))))))) (fun s H C cl fp => (g_name (i := 5) sc.nd rfl (by first | exact .inl rfl | exact .inr rfl))) (fun s H C cl fp => ts_nil) (fun s H C cl fp => (e_tup (a_cons e_int (a_cons (b_addS (b_addS (ev 1) e_str) (ev 5)) (a_cons e_int a_nil))))))))
    (s_cons (s_set (i := 0) sc.nd rfl (by first | exact .inl rfl | exact .inr rfl) (b_addS (ev 0) (e_lc (own := [((PySem.Str.ofString "own"), 5)]) rfl sc.nd (blkOk_by (by first | rfl | kernel_rfl | with_unfolding_all rfl)) rfl (i_any (e_tup (a_cons e_str (a_cons e_str (a_cons e_str a_nil))))) (fun s H C cl fp => (g_name (i := 5) sc.nd rfl (by first | exact .inl rfl | exact .inr rfl))) (fun s H C cl fp => ts_nil) (fun s H C cl fp => (e_tup (a_cons e_int (a_cons (b_addS (ev 3) (ev 5)) (a_cons e_int a_nil))))))))
    (s_cons (s_set (i := 0) sc.nd rfl (by first | exact .inl rfl | exact .inr rfl) (b_addS (ev 0) (e_lst (a_cons (e_tup (a_cons e_int (a_cons e_str (a_cons e_int a_nil)))) (a_cons (e_tup (a_cons e_int (a_cons e_str (a_cons e_int a_nil)))) a_nil)))))
    (s_cons (s_set (i := 0) sc.nd rfl (by first | exact .inl rfl | exact .inr rfl) (b_addS (ev 0) (e_lst (a_cons (e_tup (a_cons e_int (a_cons (b_addS (ev 1) e_str) (a_cons e_int a_nil)))) (a_cons (e_tup (a_cons e_int (a_cons e_str (a_cons e_int a_nil)))) (a_cons (e_tup (a_cons e_int (a_cons (ev 3) (a_cons e_int a_nil)))) (a_cons (e_tup (a_cons e_int (a_cons (b_addS (ev 3) e_str) (a_cons e_int a_nil)))) a_nil)))))))
    (s_cons (s_set (i := 0) sc.nd rfl (by first | exact .inl rfl | exact .inr rfl) (b_addS (ev 0) (e_lst (a_cons (e_tup (a_cons e_int (a_cons (b_addS (ev 3) e_str) (a_cons e_int a_nil)))) (a_cons (e_tup (a_cons e_int (a_cons (b_addS (ev 3) e_str) (a_cons e_int a_nil)))) (a_cons (e_tup (a_cons e_int (a_cons (b_addS (ev 4) e_str) (a_cons e_int a_nil)))) a_nil))))))
    (s_cons (s_setLc (i := 2) (own := [((PySem.Str.ofString "own"), 5)]) rfl sc.nd rfl rfl rfl (blkOk_by (by first | rfl | kernel_rfl | with_unfolding_all rfl)) rfl (i_any (ev 0)) (fun s H C cl fp => (g_name (i := 5) sc.nd rfl (by first | exact .inl rfl | exact .inr rfl))) (fun s H C cl fp => ts_nil) (fun s H C cl fp => (e_call F__law_heard (hr.mono (by first | decide | omega)) T.g__law_heard T.k__law_heard B__law_heard tkF (len_cons (len_cons len_nil)) rfl (a_cons (x_ix hr (ev 5) e_int) (a_cons (x_ix hr (ev 5) e_int) a_nil)))))
    (s_cons (s_ret (e_call F__law_same (hr.mono (by first | decide | omega)) T.g__law_same T.k__law_same B__law_same tkD (len_cons (len_cons len_nil)) rfl (a_cons (ev 2) (a_cons (e_lc (own := [((PySem.Str.ofString "own"), 5)]) rfl sc.nd (blkOk_by (by first | rfl | kernel_rfl | with_unfolding_all rfl)) rfl (i_any (ev 0)) (fun s H C cl fp => (g_name (i := 5) sc.nd rfl (by first | exact .inl rfl | exact .inr rfl))) (fun s H C cl fp => ts_nil) (fun s H C cl fp => (e_lst (a_cons e_str (a_cons (x_ix hr (ev 5) e_int) (a_cons e_bl a_nil)))))) a_nil))))
    s_nil)))))))))))))))))))))
theorem ok__law_unfit_right (F : Fun K (PySem.Str.ofString "_law_unfit_right") (PySem.Str.ofString "_law_unfit_right") st__law_unfit_right a__law_unfit_right fd__law_unfit_right) (F__law_flip_text : FnOk P w K mg base (L2.CX P w) 1 a__law_flip_text fd__law_flip_text ps__law_flip_text (spF ⟨w, K, mg⟩ 0 f__law_flip_text)) (B__law_flip_text : Binds K fd__law_flip_text ps__law_flip_text []) (F__law_two_text : FnOk P w K mg base (L2.CX P w) 1 a__law_two_text fd__law_two_text ps__law_two_text (spF ⟨w, K, mg⟩ 0 f__law_two_text)) (B__law_two_text : Binds K fd__law_two_text ps__law_two_text []) (F__law_heard : FnOk P w K mg base (L2.CX P w) 8 a__law_heard fd__law_heard ps__law_heard (spF ⟨w, K, mg⟩ 2 f__law_heard)) (B__law_heard : Binds K fd__law_heard ps__law_heard []) (F__law_same : FnOk P w K mg base (L2.CX P w) 41 a__law_same fd__law_same ps__law_same (spF ⟨w, K, mg⟩ 2 f__law_same)) (B__law_same : Binds K fd__law_same ps__law_same []) : FnOk P w K mg base (L2.CX P w) 42 a__law_unfit_right fd__law_unfit_right ps__law_unfit_right (spF ⟨w, K, mg⟩ 0 f__law_unfit_right) := by
  have sc := sc__law_unfit_right
  refine fn_ok F sc rfl (by decide) fun cdv A outer s H E hr => ?_
  exact (s_cons (s_par (i := 3) (j := 4) rfl sc.nd rfl rfl (by decide) rfl rfl (a_cons (e_call0 F__law_flip_text (hr.mono (by first | decide | omega)) T.g__law_flip_text T.k__law_flip_text B__law_flip_text tkD rfl) (a_cons (e_call0 F__law_two_text (hr.mono (by first | decide | omega)) T.g__law_two_text T.k__law_two_text B__law_two_text tkD rfl) a_nil)))
    (s_cons (s_set (i := 0) sc.nd rfl (by first | exact .inl rfl | exact .inr rfl) (e_lst (a_cons (e_tup (a_cons e_int (a_cons e_str a_nil))) (a_cons (e_tup (a_cons e_int (a_cons e_str a_nil))) (a_cons (e_tup (a_cons e_int (a_cons e_str a_nil))) a_nil)))))
    (s_cons (s_set (i := 0) sc.nd rfl (by first | exact .inl rfl | exact .inr rfl) (b_add (ev 0) (e_lc (own := [((PySem.Str.ofString "own"), 5)]) rfl sc.nd (blkOk_by (by first | rfl | kernel_rfl | with_unfolding_all rfl)) rfl (i_any (e_tup (a_cons e_str (a_cons e_str (a_cons e_str (a_cons e_str (a_cons e_str a_nil))))))) (fun s H C cl fp => (g_name (i := 5) sc.nd rfl (by first | exact .inl rfl | exact .inr rfl))) (fun s H C cl fp => ts_nil) (fun s H C cl fp => (e_tup (a_cons e_int (a_cons (b_addS e_str (ev 5)) a_nil)))))))
    (s_cons (s_set (i := 0) sc.nd rfl (by first | exact .inl rfl | exact .inr rfl) (b_add (ev 0) (e_lc (own := [((PySem.Str.ofString "own"), 5)]) rfl sc.nd (blkOk_by (by first | rfl | kernel_rfl | with_unfolding_all rfl)) rfl (i_any (e_tup (a_cons e_str a_nil))) (fun s H C cl fp => (g_name (i := 5) sc.nd rfl (by first | exact .inl rfl | exact .inr rfl))) (fun s H C cl fp => ts_nil) (fun s H C cl fp => (e_tup (a_cons e_int (a_cons (b_addS e_str (ev 5)) a_nil)))))))
    (s_cons (s_set (i := 0) sc.nd rfl (by first | exact .inl rfl | exact .inr rfl) (b_add (ev 0) (e_lst (a_cons (e_tup (a_intT (eT_repl (ev 3)))) (a_cons (e_tup (a_intT (eT_repl (ev 3)))) a_nil)))))
    (s_cons (s_set (i := 0) sc.nd rfl (by first | exact .inl rfl | exact .inr rfl) (b_add (ev 0) (e_lst (a_cons (e_tup (a_cons e_int (a_cons e_str a_nil))) a_nil))))
    (s_cons (s_set (i := 1) sc.nd rfl (by first | exact .inl rfl | exact .inr rfl) e_str)
    (s_cons (s_set (i := 0) sc.nd rfl (by first | exact .inl rfl | exact .inr rfl) (b_add (ev 0) (e_lst (a_cons (e_tup (a_cons e_int (a_cons (b_addS (b_addS (ev 3) e_str) (ev 1)) a_nil))) (a_cons (e_tup (a_cons e_int (a_cons (b_addS (b_addS (ev 1) e_str) (ev 3)) a_nil))) (a_cons (e_tup (a_intT (eT_add (b_addS (ev 3) e_str) (eT_repl (ev 3))))) a_nil))))))
    (s_cons (s_set (i := 0) sc.nd rfl (by first | exact .inl rfl | exact .inr rfl) (b_add (ev 0) (e_lst (a_cons (e_tup (a_intT (eT_repl (ev 4)))) (a_cons (e_tup (a_intT (eT_add (b_addS (ev 3) e_str) (eT_repl (ev 3))))) a_nil)))))
    (s_cons (s_setLc (i := 2) (own := [((PySem.Str.ofString "own"), 5)]) rfl sc.nd rfl rfl rfl (blkOk_by (by first | rfl | kernel_rfl | with_unfolding_all rfl)) rfl (i_any (ev 0)) (fun s H C cl fp => (g_name (i := 5) sc.nd rfl (by first | exact .inl rfl | exact .inr rfl))) (fun s H C cl fp => ts_nil) (fun s H C cl fp => (e_call F__law_heard (hr.mono (by first | decide | omega)) T.g__law_heard T.k__law_heard B__law_heard tkF (len_cons (len_cons len_nil)) rfl (a_cons (x_ix hr (ev 5) e_int) (a_cons (x_ix hr (ev 5) e_int) a_nil)))))
    (s_cons (s_ret (e_call F__law_same (hr.mono (by first | decide | omega)) T.g__law_same T.k__law_same B__law_same tkD (len_cons (len_cons len_nil)) rfl (a_cons (ev 2) (a_cons (b_mulW (e_lst (a_cons (e_lst (a_cons e_str (a_cons e_bl a_nil))) a_nil)) (f_len rfl T.n_len (a_cons (ev 0) a_nil))) a_nil))))
    s_nil)))))))))))
theorem ok_law (F : Fun K (PySem.Str.ofString "law") (PySem.Str.ofString "law") st_law a_law fd_law) (F__law_always_right : FnOk P w K mg base (L2.CX P w) 42 a__law_always_right fd__law_always_right ps__law_always_right (spF ⟨w, K, mg⟩ 0 f__law_always_right)) (B__law_always_right : Binds K fd__law_always_right ps__law_always_right []) (F__law_take : FnOk P w K mg base (L2.CX P w) 1 a__law_take fd__law_take ps__law_take (spF ⟨w, K, mg⟩ 2 f__law_take)) (B__law_take : Binds K fd__law_take ps__law_take []) (F__law_box : FnOk P w K mg base (L2.CX P w) 1 a__law_box fd__law_box ps__law_box (spF ⟨w, K, mg⟩ 2 f__law_box)) (B__law_box : Binds K fd__law_box ps__law_box []) (F__law_cells : FnOk P w K mg base (L2.CX P w) 1 a__law_cells fd__law_cells ps__law_cells (spF ⟨w, K, mg⟩ 2 f__law_cells)) (B__law_cells : Binds K fd__law_cells ps__law_cells []) (F__law_told_right : FnOk P w K mg base (L2.CX P w) 42 a__law_told_right fd__law_told_right ps__law_told_right (spF ⟨w, K, mg⟩ 0 f__law_told_right)) (B__law_told_right : Binds K fd__law_told_right ps__law_told_right []) (F__law_lines_right : FnOk P w K mg base (L2.CX P w) 42 a__law_lines_right fd__law_lines_right ps__law_lines_right (spF ⟨w, K, mg⟩ 0 f__law_lines_right)) (B__law_lines_right : Binds K fd__law_lines_right ps__law_lines_right []) (F__law_unfit_right : FnOk P w K mg base (L2.CX P w) 42 a__law_unfit_right fd__law_unfit_right ps__law_unfit_right (spF ⟨w, K, mg⟩ 0 f__law_unfit_right)) (B__law_unfit_right : Binds K fd__law_unfit_right ps__law_unfit_right []) (hz : Tbs.base = []) : FnOk P w K mg base (L2.CX P w) 43 a_law fd_law ps_law (spF ⟨w, K, mg⟩ 1 f_law) := by
  have sc := sc_law
  refine fn_ok F sc rfl (by decide) fun cdv A outer s H E hr => ?_
  exact (s_cons (s_if (t_not (t_val (e_call0 (fn_cl hz F__law_always_right) (hr.mono (by first | decide | omega)) T.g__law_always_right T.k__law_always_right B__law_always_right tkD rfl))) (s_cons (s_ret e_bl)
    s_nil) s_nil)
    (s_cons (s_set (i := 1) sc.nd rfl (by first | exact .inl rfl | exact .inr rfl) (e_call F__law_take (hr.mono (by first | decide | omega)) T.g__law_take T.k__law_take B__law_take tkD (len_cons (len_cons len_nil)) rfl (a_cons (e_call F__law_box (hr.mono (by first | decide | omega)) T.g__law_box T.k__law_box B__law_box tkD (len_cons (len_cons len_nil)) rfl (a_cons (e_call F__law_cells (hr.mono (by first | decide | omega)) T.g__law_cells T.k__law_cells B__law_cells tkD (len_cons (len_cons len_nil)) rfl (a_cons (ev 0) (a_cons e_int a_nil))) (a_cons e_int a_nil))) (a_cons e_int a_nil))))
    (s_cl hz (s_cons (s_ret (e_callV0 hr tkD (tb_cons (by first | decide | omega) F__law_told_right T.g__law_told_right T.k__law_told_right B__law_told_right (tb_cons (by first | decide | omega) F__law_lines_right T.g__law_lines_right T.k__law_lines_right B__law_lines_right (tb_cons (by first | decide | omega) F__law_unfit_right T.g__law_unfit_right T.k__law_unfit_right B__law_unfit_right tb_nil))) (x_ix hr (e_lst (a_cons (e_globF rfl T.g__law_told_right) (a_cons (e_globF rfl T.g__law_lines_right) (a_cons (e_globF rfl T.g__law_unfit_right) a_nil)))) (ev 1))))
    s_nil))))
end
end
end Gn

set_option Elab.async false
set_option linter.all false
set_option maxRecDepth 100000
set_option maxHeartbeats 4000000
set_option autoImplicit false
namespace Gn
open PySem PySem.Spec PyProof.Rows L2 Rh
noncomputable def zm_is_number : MS := (zSeq (zRet (mAndV (zOpA dIsi (zCons (zVar 0) (zCons (zCon (.ty .int)) zNil))) (mNotV (zOpA dIsi (zCons (zVar 0) (zCons (zCon (.ty .bool)) zNil))))))
    mNx)
theorem qm_is_number : m_is_number = zm_is_number := by
  unfold m_is_number zm_is_number
  simp only [q_mSeq, q_mRet, q_mOpA, q_mCons, q_mVar, q_mCon, q_mNil]
noncomputable def zf_is_number : FM := zRun N_is_number.length zm_is_number
theorem qf_is_number : f_is_number = zf_is_number := by
  unfold f_is_number zf_is_number
  simp only [q_runDef, qm_is_number]
noncomputable def zm_are_numbers_from : MS := (zSeq (zRet (mAndV (zOpA dIsi (zCons (zVar 0) (zCons (zCon (.ty .tuple)) zNil))) (zOpA dAll (zCons (zLc (zIter (zVar 0)) (zName 2) (mPure true) (mAndV (zCall zf_is_number (zCons (zVar 2) zNil)) (zOp2 dGe (zVar 2) (zVar 1))) [2]) zNil))))
    mNx)
theorem qm_are_numbers_from : m_are_numbers_from = zm_are_numbers_from := by
  unfold m_are_numbers_from zm_are_numbers_from
  simp only [q_mSeq, q_mRet, q_mOpA, q_mCons, q_mVar, q_mCon, q_mNil, q_mLc, q_mIter, q_tName, q_mCall, qf_is_number, q_mOp2]
noncomputable def zf_are_numbers_from : FM := zRun N_are_numbers_from.length zm_are_numbers_from
theorem qf_are_numbers_from : f_are_numbers_from = zf_are_numbers_from := by
  unfold f_are_numbers_from zf_are_numbers_from
  simp only [q_runDef, qm_are_numbers_from]
noncomputable def zm_are_places : MS := (zSeq (zRet (mAndV (zCall zf_are_numbers_from (zCons (zVar 0) (zCons (zCon (.int 0)) zNil))) (zOpA dAll (zCons (zLc (zIter (zVar 0)) (zName 2) (mPure true) (zOp2 dLt (zVar 2) (zVar 1)) [2]) zNil))))
    mNx)
theorem qm_are_places : m_are_places = zm_are_places := by
  unfold m_are_places zm_are_places
  simp only [q_mSeq, q_mRet, q_mCall, qf_are_numbers_from, q_mCons, q_mVar, q_mCon, q_mNil, q_mOpA, q_mLc, q_mIter, q_tName, q_mOp2]
noncomputable def zf_are_places : FM := zRun N_are_places.length zm_are_places
theorem qf_are_places : f_are_places = zf_are_places := by
  unfold f_are_places zf_are_places
  simp only [q_runDef, qm_are_places]
noncomputable def zm_is_set_of_places : MS := (zSeq (zRet (mAndV (zCall zf_are_places (zCons (zVar 0) (zCons (zVar 1) zNil))) (zOpA dAll (zCons (zLc (mZip (zCons (zVar 0) (zCons (mSl (zVar 0) (mPart (zCon (.int 1))) (mPure none)) zNil))) (zTupT 2 (zsCons (zName 2) (zsCons (zName 3) tsNil))) (mPure true) (zOp2 dLt (zVar 2) (zVar 3)) [2, 3]) zNil))))
    mNx)
theorem qm_is_set_of_places : m_is_set_of_places = zm_is_set_of_places := by
  unfold m_is_set_of_places zm_is_set_of_places
  simp only [q_mSeq, q_mRet, q_mCall, qf_are_places, q_mCons, q_mVar, q_mNil, q_mOpA, q_mLc, q_mCon, q_tTup, q_tsCons, q_tName, q_mOp2]
noncomputable def zf_is_set_of_places : FM := zRun N_is_set_of_places.length zm_is_set_of_places
theorem qf_is_set_of_places : f_is_set_of_places = zf_is_set_of_places := by
  unfold f_is_set_of_places zf_is_set_of_places
  simp only [q_runDef, qm_is_set_of_places]
noncomputable def zm_are_steps : MS := (zSeq (zIfS (zOr (mNot (zTruth (zOpA dIsi (zCons (zVar 0) (zCons (zCon (.ty .tuple)) zNil))))) (zB (zOp2 (zEqA false) (zOpA zLen (zCons (zVar 0) zNil)) (zCon (.int 0))))) (zSeq (zRet (zCon (.bl false)))
    mNx) mNx)
    (zSeq (zIfS (mNot (zTruth (zOpA dAll (zCons (zLc (zIter (zVar 0)) (zName 1) (mPure true) (zCall zf_are_places (zCons (zVar 1) (zCons (zOpA zLen (zCons (zVar 0) zNil)) zNil))) [1]) zNil)))) (zSeq (zRet (zCon (.bl false)))
    mNx) mNx)
    (zSeq (zRet (mAndV (zOp2 dGt (zOpA zLen (zCons (zOp2 zIx2 (zVar 0) (zCon (.int 0))) zNil)) (zCon (.int 0))) (zOpA dAll (zCons (zLc (zIter (zVar 0)) (zName 1) (mPure true) (zOp2 (zEqA false) (zOpA zLen (zCons (zVar 1) zNil)) (zOpA zLen (zCons (zOp2 zIx2 (zVar 0) (zCon (.int 0))) zNil))) [1]) zNil))))
    mNx)))
theorem qm_are_steps : m_are_steps = zm_are_steps := by
  unfold m_are_steps zm_are_steps
  simp only [q_mSeq, q_mIfS, q_mOr, q_mTruth, q_mOpA, q_mCons, q_mVar, q_mCon, q_mNil, q_mB, q_mOp2, q_dEqA, q_dLenA, q_mRet, q_mLc, q_mIter, q_tName, q_mCall, qf_are_places, q2_dIx]
noncomputable def zf_are_steps : FM := zRun N_are_steps.length zm_are_steps
theorem qf_are_steps : f_are_steps = zf_are_steps := by
  unfold f_are_steps zf_are_steps
  simp only [q_runDef, qm_are_steps]
noncomputable def zm_is_machine : MS := (zSeq (zIfS (zOr (mNot (zTruth (zOpA dIsi (zCons (zVar 0) (zCons (zCon (.ty .tuple)) zNil))))) (zB (zOp2 (zEqA true) (zOpA zLen (zCons (zVar 0) zNil)) (zCon (.int 2))))) (zSeq (zRet (zCon (.bl false)))
    mNx) mNx)
    (zSeq (zAsg (zTupT 2 (zsCons (zName 1) (zsCons (zName 2) tsNil))) (zVar 0))
    (zSeq (zRet (mAndV (zCall zf_are_steps (zCons (zVar 1) zNil)) (zCall zf_is_set_of_places (zCons (zVar 2) (zCons (zOpA zLen (zCons (zVar 1) zNil)) zNil)))))
    mNx)))
theorem qm_is_machine : m_is_machine = zm_is_machine := by
  unfold m_is_machine zm_is_machine
  simp only [q_mSeq, q_mIfS, q_mOr, q_mTruth, q_mOpA, q_mCons, q_mVar, q_mCon, q_mNil, q_mB, q_mOp2, q_dEqA, q_dLenA, q_mRet, q_mAsg, q_tTup, q_tsCons, q_tName, q_mCall, qf_are_steps, qf_is_set_of_places]
noncomputable def zf_is_machine : FM := zRun N_is_machine.length zm_is_machine
theorem qf_is_machine : f_is_machine = zf_is_machine := by
  unfold f_is_machine zf_is_machine
  simp only [q_runDef, qm_is_machine]
noncomputable def zm_letters_in : MS := (zSeq (zRet (zOpA zLen (zCons (zOp2 zIx2 (zOp2 zIx2 (zVar 0) (zCon (.int 0))) (zCon (.int 0))) zNil)))
    mNx)
theorem qm_letters_in : m_letters_in = zm_letters_in := by
  unfold m_letters_in zm_letters_in
  simp only [q_mSeq, q_mRet, q_mOpA, q_dLenA, q_mCons, q_mOp2, q2_dIx, q_mVar, q_mCon, q_mNil]
noncomputable def zf_letters_in : FM := zRun N_letters_in.length zm_letters_in
theorem qf_letters_in : f_letters_in = zf_letters_in := by
  unfold f_letters_in zf_letters_in
  simp only [q_runDef, qm_letters_in]
noncomputable def zm_is_event : MS := (zSeq (zRet (mAndV (zCall zf_are_numbers_from (zCons (zVar 0) (zCons (zCon (.int 0)) zNil))) (mAndV (zOp2 (zEqA false) (zOpA zLen (zCons (zVar 0) zNil)) (zCon (.int 2))) (zOp2 dLt (zOp2 zIx2 (zVar 0) (zCon (.int 0))) (zCon (.int 2))))))
    mNx)
theorem qm_is_event : m_is_event = zm_is_event := by
  unfold m_is_event zm_is_event
  simp only [q_mSeq, q_mRet, q_mCall, qf_are_numbers_from, q_mCons, q_mVar, q_mCon, q_mNil, q_mOp2, q_dEqA, q_mOpA, q_dLenA, q2_dIx]
noncomputable def zf_is_event : FM := zRun N_is_event.length zm_is_event
theorem qf_is_event : f_is_event = zf_is_event := by
  unfold f_is_event zf_is_event
  simp only [q_runDef, qm_is_event]
noncomputable def zm_is_run : MS := (zSeq (zIfS (zOr (mNot (zTruth (zOpA dIsi (zCons (zVar 0) (zCons (zCon (.ty .tuple)) zNil))))) (mNot (zTruth (zOpA dAll (zCons (zLc (zIter (zVar 0)) (zName 4) (mPure true) (zCall zf_is_event (zCons (zVar 4) zNil)) [4]) zNil))))) (zSeq (zRet (zCon (.bl false)))
    mNx) mNx)
    (zSeq (zSet 1 (zLst (zCons (zCon (.int 0)) (zCons (zCon (.int 0)) zNil))))
    (zSeq (zFor (zIter (zVar 0)) (zTupT 2 (zsCons (zName 2) (zsCons (zName 3) tsNil))) (zSeq (zIfS (zB (zOp2 dGt (zVar 3) (zCon (.int 0)))) (zSeq (mAugS (fun i j => i + j) (zVar 1) (zOp2 zSub (zCon (.int 1)) (zVar 2)) (zCon (.int 1)))
    mNx) (zSeq (zIfS (zB (zOp2 dGt (zOp2 zIx2 (zVar 1) (zVar 2)) (zCon (.int 0)))) (zSeq (mAugS (fun i j => i - j) (zVar 1) (zVar 2) (zCon (.int 1)))
    mNx) (zSeq (zRet (zCon (.bl false)))
    mNx))
    mNx))
    mNx))
    (zSeq (zRet (zCon (.bl true)))
    mNx))))
theorem qm_is_run : m_is_run = zm_is_run := by
  unfold m_is_run zm_is_run
  simp only [q_mSeq, q_mIfS, q_mOr, q_mTruth, q_mOpA, q_mCons, q_mVar, q_mCon, q_mNil, q_mLc, q_mIter, q_tName, q_mCall, qf_is_event, q_mRet, q_mSet, q_mLst, q_mFor, q_tTup, q_tsCons, q_mB, q_mOp2, q_dSub, q2_dIx]
noncomputable def zf_is_run : FM := zRun N_is_run.length zm_is_run
theorem qf_is_run : f_is_run = zf_is_run := by
  unfold f_is_run zf_is_run
  simp only [q_runDef, qm_is_run]
noncomputable def zm_are_rows : MS := (zSeq (zIfS (zOr (mNot (zTruth (zOpA dIsi (zCons (zVar 0) (zCons (zCon (.ty .tuple)) zNil))))) (zB (zOp2 (zEqA true) (zOpA zLen (zCons (zVar 0) zNil)) (zVar 1)))) (zSeq (zRet (zCon (.bl false)))
    mNx) mNx)
    (zSeq (zRet (mAndV (zOpA dAll (zCons (zLc (zIter (zVar 0)) (zName 2) (mPure true) (mAndV (zOpA dIsi (zCons (zVar 2) (zCons (zCon (.ty .tuple)) zNil))) (zOp2 dGt (zOpA zLen (zCons (zVar 2) zNil)) (zCon (.int 0)))) [2]) zNil)) (zOp2 (zEqA false) (mLenSc (mSc (zIter (zVar 0)) (zName 2) (mPure true) (zOpA zLen (zCons (zVar 2) zNil)) [2])) (zCon (.int 1)))))
    mNx))
theorem qm_are_rows : m_are_rows = zm_are_rows := by
  unfold m_are_rows zm_are_rows
  simp only [q_mSeq, q_mIfS, q_mOr, q_mTruth, q_mOpA, q_mCons, q_mVar, q_mCon, q_mNil, q_mB, q_mOp2, q_dEqA, q_dLenA, q_mRet, q_mLc, q_mIter, q_tName]
noncomputable def zf_are_rows : FM := zRun N_are_rows.length zm_are_rows
theorem qf_are_rows : f_are_rows = zf_are_rows := by
  unfold f_are_rows zf_are_rows
  simp only [q_runDef, qm_are_rows]
noncomputable def zm_is_step : MS := (zSeq (zRet (mAndV (zCall zf_are_numbers_from (zCons (zVar 0) (zCons (zCon (.int 0)) zNil))) (mAndV (zOp2 (zEqA false) (zOpA zLen (zCons (zVar 0) zNil)) (zCon (.int 2))) (zOp2 dLt (zOp2 zIx2 (zVar 0) (zCon (.int 0))) (zVar 1)))))
    mNx)
theorem qm_is_step : m_is_step = zm_is_step := by
  unfold m_is_step zm_is_step
  simp only [q_mSeq, q_mRet, q_mCall, qf_are_numbers_from, q_mCons, q_mVar, q_mCon, q_mNil, q_mOp2, q_dEqA, q_mOpA, q_dLenA, q2_dIx]
noncomputable def zf_is_step : FM := zRun N_is_step.length zm_is_step
theorem qf_is_step : f_is_step = zf_is_step := by
  unfold f_is_step zf_is_step
  simp only [q_runDef, qm_is_step]
noncomputable def zm_are_puts : MS := (zSeq (zRet (mAndV (zCall zf_are_rows (zCons (zVar 0) (zCons (zVar 1) zNil))) (zOpA dAll (zCons (mLc2 (zIter (zVar 0)) (zName 2) (mPure true) (zIter (zVar 2)) (zName 3) (mPure true) (zCall zf_is_step (zCons (zVar 3) (zCons (zVar 1) zNil))) [2, 3] [3]) zNil))))
    mNx)
theorem qm_are_puts : m_are_puts = zm_are_puts := by
  unfold m_are_puts zm_are_puts
  simp only [q_mSeq, q_mRet, q_mCall, qf_are_rows, q_mCons, q_mVar, q_mNil, q_mOpA, q_mIter, q_tName, qf_is_step]
noncomputable def zf_are_puts : FM := zRun N_are_puts.length zm_are_puts
theorem qf_are_puts : f_are_puts = zf_are_puts := by
  unfold f_are_puts zf_are_puts
  simp only [q_runDef, qm_are_puts]
noncomputable def zm_are_takes : MS := (zSeq (zIfS (mNot (zTruth (zCall zf_are_rows (zCons (zVar 0) (zCons (zVar 1) zNil))))) (zSeq (zRet (zCon (.bl false)))
    mNx) mNx)
    (zSeq (zSet 2 (zOpA zTuple (zCons (mLc2 (zIter (zVar 0)) (zName 3) (mPure true) (zIter (zVar 3)) (zName 4) (mPure true) (zVar 4) [3, 4] [4]) zNil)))
    (zSeq (zRet (mAndV (zCall zf_are_rows (zCons (zVar 2) (zCons (zOpA zLen (zCons (zVar 2) zNil)) zNil))) (zOpA dAll (zCons (zLc (zIter (zVar 2)) (zName 4) (mPure true) (zCall zf_are_places (zCons (zVar 4) (zCons (zVar 1) zNil))) [4]) zNil))))
    mNx)))
theorem qm_are_takes : m_are_takes = zm_are_takes := by
  unfold m_are_takes zm_are_takes
  simp only [q_mSeq, q_mIfS, q_mTruth, q_mCall, qf_are_rows, q_mCons, q_mVar, q_mNil, q_mRet, q_mCon, q_mSet, q_mOpA, q_dTuple, q_mIter, q_tName, q_dLenA, q_mLc, qf_are_places]
noncomputable def zf_are_takes : FM := zRun N_are_takes.length zm_are_takes
theorem qf_are_takes : f_are_takes = zf_are_takes := by
  unfold f_are_takes zf_are_takes
  simp only [q_runDef, qm_are_takes]
noncomputable def zm_is_keeper : MS := (zSeq (zIfS (zOr (mNot (zTruth (zOpA dIsi (zCons (zVar 0) (zCons (zCon (.ty .tuple)) zNil))))) (zB (zOp2 (zEqA true) (zOpA zLen (zCons (zVar 0) zNil)) (zCon (.int 3))))) (zSeq (zRet (zCon (.bl false)))
    mNx) mNx)
    (zSeq (zAsg (zTupT 3 (zsCons (zName 1) (zsCons (zName 2) (zsCons (zName 3) tsNil)))) (zVar 0))
    (zSeq (zIfS (zOr (mNot (zTruth (zOpA dIsi (zCons (zVar 1) (zCons (zCon (.ty .tuple)) zNil))))) (zOr (zB (zOp2 (zEqA false) (zOpA zLen (zCons (zVar 1) zNil)) (zCon (.int 0)))) (mNot (zTruth (zOpA dAll (zCons (zLc (zIter (zVar 1)) (zName 4) (mPure true) (zOpA dIsi (zCons (zVar 4) (zCons (zCon (.ty .bool)) zNil))) [4]) zNil)))))) (zSeq (zRet (zCon (.bl false)))
    mNx) mNx)
    (zSeq (zRet (mAndV (zCall zf_are_puts (zCons (zVar 2) (zCons (zOpA zLen (zCons (zVar 1) zNil)) zNil))) (mAndV (zCall zf_are_takes (zCons (zVar 3) (zCons (zOpA zLen (zCons (zVar 1) zNil)) zNil))) (zOp2 (zEqA false) (zOpA zLen (zCons (zOp2 zIx2 (zVar 2) (zCon (.int 0))) zNil)) (zOpA zLen (zCons (zOp2 zIx2 (zVar 3) (zCon (.int 0))) zNil))))))
    mNx))))
theorem qm_is_keeper : m_is_keeper = zm_is_keeper := by
  unfold m_is_keeper zm_is_keeper
  simp only [q_mSeq, q_mIfS, q_mOr, q_mTruth, q_mOpA, q_mCons, q_mVar, q_mCon, q_mNil, q_mB, q_mOp2, q_dEqA, q_dLenA, q_mRet, q_mAsg, q_tTup, q_tsCons, q_tName, q_mLc, q_mIter, q_mCall, qf_are_puts, qf_are_takes, q2_dIx]
noncomputable def zf_is_keeper : FM := zRun N_is_keeper.length zm_is_keeper
theorem qf_is_keeper : f_is_keeper = zf_is_keeper := by
  unfold f_is_keeper zf_is_keeper
  simp only [q_runDef, qm_is_keeper]
noncomputable def zm_letters_of : MS := (zSeq (zRet (zOpA zLen (zCons (zOp2 zIx2 (zOp2 zIx2 (zVar 0) (zCon (.int 1))) (zCon (.int 0))) zNil)))
    mNx)
theorem qm_letters_of : m_letters_of = zm_letters_of := by
  unfold m_letters_of zm_letters_of
  simp only [q_mSeq, q_mRet, q_mOpA, q_dLenA, q_mCons, q_mOp2, q2_dIx, q_mVar, q_mCon, q_mNil]
noncomputable def zf_letters_of : FM := zRun N_letters_of.length zm_letters_of
theorem qf_letters_of : f_letters_of = zf_letters_of := by
  unfold f_letters_of zf_letters_of
  simp only [q_runDef, qm_letters_of]
noncomputable def zm_marks_of : MS := (zSeq (zRet (zOpA zLen (zCons (zOp2 zIx2 (zOp2 zIx2 (zOp2 zIx2 (zVar 0) (zCon (.int 2))) (zCon (.int 0))) (zCon (.int 0))) zNil)))
    mNx)
theorem qm_marks_of : m_marks_of = zm_marks_of := by
  unfold m_marks_of zm_marks_of
  simp only [q_mSeq, q_mRet, q_mOpA, q_dLenA, q_mCons, q_mOp2, q2_dIx, q_mVar, q_mCon, q_mNil]
noncomputable def zf_marks_of : FM := zRun N_marks_of.length zm_marks_of
theorem qf_marks_of : f_marks_of = zf_marks_of := by
  unfold f_marks_of zf_marks_of
  simp only [q_runDef, qm_marks_of]
noncomputable def zm_greatest_mark : MS := (zSeq (zRet (zOpA dMaxA (zCons (mLc2 (zIter (zOp2 zIx2 (zVar 0) (zCon (.int 1)))) (zName 1) (mPure true) (zIter (zVar 1)) (zTupT 2 (zsCons (zName 2) (zsCons (zName 3) tsNil))) (mPure true) (zVar 3) [1, 2, 3] [2, 3]) zNil)))
    mNx)
theorem qm_greatest_mark : m_greatest_mark = zm_greatest_mark := by
  unfold m_greatest_mark zm_greatest_mark
  simp only [q_mSeq, q_mRet, q_mOpA, q_mCons, q_mIter, q_mOp2, q2_dIx, q_mVar, q_mCon, q_tName, q_tTup, q_tsCons, q_mNil]
noncomputable def zf_greatest_mark : FM := zRun N_greatest_mark.length zm_greatest_mark
theorem qf_greatest_mark : f_greatest_mark = zf_greatest_mark := by
  unfold f_greatest_mark zf_greatest_mark
  simp only [q_runDef, qm_greatest_mark]
noncomputable def zm_is_pair : MS := (zSeq (zIfS (zOr (mNot (zTruth (zOpA dIsi (zCons (zVar 0) (zCons (zCon (.ty .tuple)) zNil))))) (zOr (zB (zOp2 (zEqA true) (zOpA zLen (zCons (zVar 0) zNil)) (zCon (.int 2)))) (mNot (zTruth (zOpA dAll (zCons (zLc (zIter (zVar 0)) (zName 3) (mPure true) (zCall zf_is_keeper (zCons (zVar 3) zNil)) [3]) zNil)))))) (zSeq (zRet (zCon (.bl false)))
    mNx) mNx)
    (zSeq (zAsg (zTupT 2 (zsCons (zName 1) (zsCons (zName 2) tsNil))) (zVar 0))
    (zSeq (zIfS (zB (zOp2 (zEqA true) (zCall zf_letters_of (zCons (zVar 1) zNil)) (zCall zf_letters_of (zCons (zVar 2) zNil)))) (zSeq (zRet (zCon (.bl false)))
    mNx) mNx)
    (zSeq (zRet (mAndV (zOp2 dLt (zCall zf_greatest_mark (zCons (zVar 1) zNil)) (zCall zf_marks_of (zCons (zVar 2) zNil))) (zOp2 dLt (zCall zf_greatest_mark (zCons (zVar 2) zNil)) (zCall zf_marks_of (zCons (zVar 1) zNil)))))
    mNx))))
theorem qm_is_pair : m_is_pair = zm_is_pair := by
  unfold m_is_pair zm_is_pair
  simp only [q_mSeq, q_mIfS, q_mOr, q_mTruth, q_mOpA, q_mCons, q_mVar, q_mCon, q_mNil, q_mB, q_mOp2, q_dEqA, q_dLenA, q_mLc, q_mIter, q_tName, q_mCall, qf_is_keeper, q_mRet, q_mAsg, q_tTup, q_tsCons, qf_letters_of, qf_greatest_mark, qf_marks_of]
noncomputable def zf_is_pair : FM := zRun N_is_pair.length zm_is_pair
theorem qf_is_pair : f_is_pair = zf_is_pair := by
  unfold f_is_pair zf_is_pair
  simp only [q_runDef, qm_is_pair]
noncomputable def zm_lines_of : MS := (zSeq (zRet (zIf (mTruthS (zVar 0)) (mM1 tSplit (zVar 0) (zCon (.str "\n"))) (zLst zNil)))
    mNx)
theorem qm_lines_of : m_lines_of = zm_lines_of := by
  unfold m_lines_of zm_lines_of
  simp only [q_mSeq, q_mRet, q_mIf, q_mVar, q_mCon, q_mLst, q_mNil]
noncomputable def zf_lines_of : FM := zRun N_lines_of.length zm_lines_of
theorem qf_lines_of : f_lines_of = zf_lines_of := by
  unfold f_lines_of zf_lines_of
  simp only [q_runDef, qm_lines_of]
noncomputable def zm_is_figures : MS := (zSeq (zIfS (zOr (zB (zOp2 (zEqA false) (zVar 0) (zCon (.str "")))) (mNot (mTruthS (zOpA dAll (zCons (zLc (mIterS (zVar 0)) (zName 1) (mPure true) (zOp2 dInSg (zVar 1) (zCon (.str "0123456789"))) [1]) zNil))))) (zSeq (zRet (zCon (.bl false)))
    mNx) mNx)
    (zSeq (zRet (mOrV (zOp2 (zEqA false) (zVar 0) (zCon (.str "0"))) (zOp2 (zEqA true) (zOp2 dIxA (zVar 0) (zCon (.int 0))) (zCon (.str "0")))))
    mNx))
theorem qm_is_figures : m_is_figures = zm_is_figures := by
  unfold m_is_figures zm_is_figures
  simp only [q_mSeq, q_mIfS, q_mOr, q_mB, q_mOp2, q_dEqA, q_mVar, q_mCon, q_mOpA, q_mCons, q_mLc, q_tName, q_mNil, q_mRet]
noncomputable def zf_is_figures : FM := zRun N_is_figures.length zm_is_figures
theorem qf_is_figures : f_is_figures = zf_is_figures := by
  unfold f_is_figures zf_is_figures
  simp only [q_runDef, qm_is_figures]
noncomputable def zm_Reader___init__ : MS := (zSeq (mSetA [(PySem.Str.ofString "Reader")] "lines" (zVar 0) (zCall zf_lines_of (zCons (zVar 1) zNil)))
    (zSeq (mSetA [(PySem.Str.ofString "Reader")] "place" (zVar 0) (zCon (.int 0)))
    mNx))
theorem qm_Reader___init__ : m_Reader___init__ = zm_Reader___init__ := by
  unfold m_Reader___init__ zm_Reader___init__
  simp only [q_mSeq, q_mVar, q_mCall, qf_lines_of, q_mCons, q_mNil, q_mCon]
noncomputable def zf_Reader___init__ : FM := zRun N_Reader___init__.length zm_Reader___init__
theorem qf_Reader___init__ : f_Reader___init__ = zf_Reader___init__ := by
  unfold f_Reader___init__ zf_Reader___init__
  simp only [q_runDef, qm_Reader___init__]
noncomputable def zm_Reader_is_done : MS := (zSeq (zRet (zOp2 (zEqA false) (zOp1 (dFld [(PySem.Str.ofString "Reader")] "place") (zVar 0)) (zOpA zLen (zCons (zOp1 (dFld [(PySem.Str.ofString "Reader")] "lines") (zVar 0)) zNil))))
    mNx)
theorem qm_Reader_is_done : m_Reader_is_done = zm_Reader_is_done := by
  unfold m_Reader_is_done zm_Reader_is_done
  simp only [q_mSeq, q_mRet, q_mOp2, q_dEqA, q_mOp1, q_mVar, q_mOpA, q_dLenA, q_mCons, q_mNil]
noncomputable def zf_Reader_is_done : FM := zRun N_Reader_is_done.length zm_Reader_is_done
theorem qf_Reader_is_done : f_Reader_is_done = zf_Reader_is_done := by
  unfold f_Reader_is_done zf_Reader_is_done
  simp only [q_runDef, qm_Reader_is_done]
noncomputable def zm_Reader_comes : MS := (zSeq (zRet (mAndV (mNotV (mMtO "Reader" "is_done" zf_Reader_is_done (zVar 0) zNil)) (zOp2 (zEqA false) (zOp2 zIx2 (mM1 tSplit (zOp2 zIx2 (zOp1 (dFld [(PySem.Str.ofString "Reader")] "lines") (zVar 0)) (zOp1 (dFld [(PySem.Str.ofString "Reader")] "place") (zVar 0))) (zCon (.str " "))) (zCon (.int 0))) (zVar 1))))
    mNx)
theorem qm_Reader_comes : m_Reader_comes = zm_Reader_comes := by
  unfold m_Reader_comes zm_Reader_comes
  simp only [q_mSeq, q_mRet, qf_Reader_is_done, q_mVar, q_mNil, q_mOp2, q_dEqA, q2_dIx, q_mOp1, q_mCon]
noncomputable def zf_Reader_comes : FM := zRun N_Reader_comes.length zm_Reader_comes
theorem qf_Reader_comes : f_Reader_comes = zf_Reader_comes := by
  unfold f_Reader_comes zf_Reader_comes
  simp only [q_runDef, qm_Reader_comes]
noncomputable def zm_Reader_check : MS := (zSeq (zIfS (mNot (zTruth (zVar 1))) (zSeq (mRaise1 "BadLine" "line" (zOp1 (dFld [(PySem.Str.ofString "Reader")] "place") (zVar 0)))
    mNx) mNx)
    mNx)
theorem qm_Reader_check : m_Reader_check = zm_Reader_check := by
  unfold m_Reader_check zm_Reader_check
  simp only [q_mSeq, q_mIfS, q_mTruth, q_mVar, q_mOp1]
noncomputable def zf_Reader_check : FM := zRun N_Reader_check.length zm_Reader_check
theorem qf_Reader_check : f_Reader_check = zf_Reader_check := by
  unfold f_Reader_check zf_Reader_check
  simp only [q_runDef, qm_Reader_check]
noncomputable def zm_Reader_behind : MS := (zSeq (zSet 2 (mMtO "Reader" "comes" zf_Reader_comes (zVar 0) (zCons (zVar 1) zNil)))
    (zSeq (mAugA [(PySem.Str.ofString "Reader")] "place" (zVar 0) (zCon (.int 1)))
    (zSeq (zExpr (mMtO "Reader" "check" zf_Reader_check (zVar 0) (zCons (zVar 2) zNil)))
    (zSeq (zRet (mSl (mM1 tSplit (zOp2 zIx2 (zOp1 (dFld [(PySem.Str.ofString "Reader")] "lines") (zVar 0)) (zOp2 zSub (zOp1 (dFld [(PySem.Str.ofString "Reader")] "place") (zVar 0)) (zCon (.int 1)))) (zCon (.str " "))) (mPart (zCon (.int 1))) (mPure none)))
    mNx))))
theorem qm_Reader_behind : m_Reader_behind = zm_Reader_behind := by
  unfold m_Reader_behind zm_Reader_behind
  simp only [q_mSeq, q_mSet, qf_Reader_comes, q_mVar, q_mCons, q_mNil, q_mCon, q_mExpr, qf_Reader_check, q_mRet, q_mOp2, q2_dIx, q_mOp1, q_dSub]
noncomputable def zf_Reader_behind : FM := zRun N_Reader_behind.length zm_Reader_behind
theorem qf_Reader_behind : f_Reader_behind = zf_Reader_behind := by
  unfold f_Reader_behind zf_Reader_behind
  simp only [q_runDef, qm_Reader_behind]
noncomputable def zm_Reader_counted : MS := (zSeq (zSet 2 (mMtO "Reader" "behind" zf_Reader_behind (zVar 0) (zCons (zVar 1) zNil)))
    (zSeq (zExpr (mMtO "Reader" "check" zf_Reader_check (zVar 0) (zCons (zOpA dAll (zCons (zLc (zIter (zVar 2)) (zName 3) (mPure true) (zCall zf_is_figures (zCons (zVar 3) zNil)) [3]) zNil)) zNil)))
    (zSeq (zRet (zLc (zIter (zVar 2)) (zName 3) (mPure true) (zOpA dIntS (zCons (zVar 3) zNil)) [3]))
    mNx)))
theorem qm_Reader_counted : m_Reader_counted = zm_Reader_counted := by
  unfold m_Reader_counted zm_Reader_counted
  simp only [q_mSeq, q_mSet, qf_Reader_behind, q_mVar, q_mCons, q_mNil, q_mExpr, qf_Reader_check, q_mOpA, q_mLc, q_mIter, q_tName, q_mCall, qf_is_figures, q_mRet]
noncomputable def zf_Reader_counted : FM := zRun N_Reader_counted.length zm_Reader_counted
theorem qf_Reader_counted : f_Reader_counted = zf_Reader_counted := by
  unfold f_Reader_counted zf_Reader_counted
  simp only [q_runDef, qm_Reader_counted]
noncomputable def zm_Reader_counted_just : MS := (zSeq (zSet 3 (mMtO "Reader" "counted" zf_Reader_counted (zVar 0) (zCons (zVar 1) zNil)))
    (zSeq (zExpr (mMtO "Reader" "check" zf_Reader_check (zVar 0) (zCons (zOp2 (zEqA false) (zOpA zLen (zCons (zVar 3) zNil)) (zVar 2)) zNil)))
    (zSeq (zRet (zVar 3))
    mNx)))
theorem qm_Reader_counted_just : m_Reader_counted_just = zm_Reader_counted_just := by
  unfold m_Reader_counted_just zm_Reader_counted_just
  simp only [q_mSeq, q_mSet, qf_Reader_counted, q_mVar, q_mCons, q_mNil, q_mExpr, qf_Reader_check, q_mOp2, q_dEqA, q_mOpA, q_dLenA, q_mRet]
noncomputable def zf_Reader_counted_just : FM := zRun N_Reader_counted_just.length zm_Reader_counted_just
theorem qf_Reader_counted_just : f_Reader_counted_just = zf_Reader_counted_just := by
  unfold f_Reader_counted_just zf_Reader_counted_just
  simp only [q_runDef, qm_Reader_counted_just]
noncomputable def zm_Reader_end : MS := (zSeq (zIfS (mNot (zTruth (mMtO "Reader" "is_done" zf_Reader_is_done (zVar 0) zNil))) (zSeq (mRaise1 "BadLine" "line" (zOp2 zAdd (zOp1 (dFld [(PySem.Str.ofString "Reader")] "place") (zVar 0)) (zCon (.int 1))))
    mNx) mNx)
    mNx)
theorem qm_Reader_end : m_Reader_end = zm_Reader_end := by
  unfold m_Reader_end zm_Reader_end
  simp only [q_mSeq, q_mIfS, q_mTruth, qf_Reader_is_done, q_mVar, q_mNil, q_mOp2, q_dAdd, q_mOp1, q_mCon]
noncomputable def zf_Reader_end : FM := zRun N_Reader_end.length zm_Reader_end
theorem qf_Reader_end : f_Reader_end = zf_Reader_end := by
  unfold f_Reader_end zf_Reader_end
  simp only [q_runDef, qm_Reader_end]
noncomputable def zm_line_with : MS := (zSeq (zRet (mM1 tJoin (zCon (.str " ")) (zOp2 zAdd (zLst (zCons (zVar 0) zNil)) (zLc (zIter (zVar 1)) (zName 2) (mPure true) (zOpA dStrI (zCons (zVar 2) zNil)) [2]))))
    mNx)
theorem qm_line_with : m_line_with = zm_line_with := by
  unfold m_line_with zm_line_with
  simp only [q_mSeq, q_mRet, q_mCon, q_mOp2, q_dAdd, q_mLst, q_mCons, q_mVar, q_mNil, q_mLc, q_mIter, q_tName, q_mOpA]
noncomputable def zf_line_with : FM := zRun N_line_with.length zm_line_with
theorem qf_line_with : f_line_with = zf_line_with := by
  unfold f_line_with zf_line_with
  simp only [q_runDef, qm_line_with]
noncomputable def zm_machine_text : MS := (zSeq (zAsg (zTupT 2 (zsCons (zName 2) (zsCons (zName 3) tsNil))) (zVar 0))
    (zSeq (zSet 1 (zOp2 zAdd (zLst (zCons (zCall zf_line_with (zCons (zCon (.str "machine")) (zCons (zLst (zCons (zCall zf_letters_in (zCons (zVar 0) zNil)) zNil)) zNil))) zNil)) (zLc (zIter (zVar 2)) (zName 4) (mPure true) (zCall zf_line_with (zCons (zCon (.str "state")) (zCons (zVar 4) zNil))) [4])))
    (zSeq (zRet (mM1 tJoin (zCon (.str "\n")) (zOp2 zAdd (zVar 1) (zLst (zCons (zCall zf_line_with (zCons (zCon (.str "ends")) (zCons (zVar 3) zNil))) zNil)))))
    mNx)))
theorem qm_machine_text : m_machine_text = zm_machine_text := by
  unfold m_machine_text zm_machine_text
  simp only [q_mSeq, q_mAsg, q_tTup, q_tsCons, q_tName, q_mVar, q_mSet, q_mOp2, q_dAdd, q_mLst, q_mCons, q_mCall, qf_line_with, q_mCon, qf_letters_in, q_mNil, q_mLc, q_mIter, q_mRet]
noncomputable def zf_machine_text : FM := zRun N_machine_text.length zm_machine_text
theorem qf_machine_text : f_machine_text = zf_machine_text := by
  unfold f_machine_text zf_machine_text
  simp only [q_runDef, qm_machine_text]
noncomputable def zm_run_text : MS := (zSeq (zSet 1 (zLc (zIter (zVar 0)) (zTupT 2 (zsCons (zName 2) (zsCons (zName 3) tsNil))) (mPure true) (zIf (zB (zOp2 dGt (zVar 3) (zCon (.int 0)))) (zCall zf_line_with (zCons (zCon (.str "put")) (zCons (zLst (zCons (zVar 2) (zCons (zVar 3) zNil))) zNil))) (zCall zf_line_with (zCons (zCon (.str "take")) (zCons (zLst (zCons (zVar 2) zNil)) zNil)))) [2, 3]))
    (zSeq (zRet (mM1 tJoin (zCon (.str "\n")) (zOp2 zAdd (zLst (zCons (zCon (.str "run")) zNil)) (zVar 1))))
    mNx))
theorem qm_run_text : m_run_text = zm_run_text := by
  unfold m_run_text zm_run_text
  simp only [q_mSeq, q_mSet, q_mLc, q_mIter, q_mVar, q_tTup, q_tsCons, q_tName, q_mIf, q_mB, q_mOp2, q_mCon, q_mCall, qf_line_with, q_mCons, q_mLst, q_mNil, q_mRet, q_dAdd]
noncomputable def zf_run_text : FM := zRun N_run_text.length zm_run_text
theorem qf_run_text : f_run_text = zf_run_text := by
  unfold f_run_text zf_run_text
  simp only [q_runDef, qm_run_text]
noncomputable def zm_keeper_text : MS := (zSeq (zAsg (zTupT 3 (zsCons (zName 3) (zsCons (zName 4) (zsCons (zName 5) tsNil)))) (zVar 0))
    (zSeq (zSet 1 (zLc (zIter (zVar 3)) (zName 8) (mPure true) (zIf (zTruth (zVar 8)) (zCon (.str "yes")) (zCon (.str "no"))) [8]))
    (zSeq (zSet 2 (zLst (zCons (zCall zf_line_with (zCons (zCon (.str "keeper")) (zCons (zLst (zCons (zCall zf_letters_of (zCons (zVar 0) zNil)) (zCons (zCall zf_marks_of (zCons (zVar 0) zNil)) zNil))) zNil))) (zCons (mM1 tJoin (zCon (.str " ")) (zOp2 zAdd (zLst (zCons (zCon (.str "answers")) zNil)) (zVar 1))) zNil))))
    (zSeq (zFor (mZip (zCons (zVar 4) (zCons (zVar 5) zNil))) (zTupT 2 (zsCons (zName 6) (zsCons (zName 7) tsNil))) (zSeq (zExpr (zMeth ckL zFAppend (zVar 2) (zCons (zCall zf_line_with (zCons (zCon (.str "puts")) (zCons (mLc2 (zIter (zVar 6)) (zName 9) (mPure true) (zIter (zVar 9)) (zName 8) (mPure true) (zVar 8) [9, 8] [8]) zNil))) zNil)))
    (zSeq (zExpr (zMeth ckL zFAppend (zVar 2) (zCons (zCall zf_line_with (zCons (zCon (.str "takes")) (zCons (mLc2 (zIter (zVar 7)) (zName 10) (mPure true) (zIter (zVar 10)) (zName 8) (mPure true) (zVar 8) [10, 8] [8]) zNil))) zNil)))
    mNx)))
    (zSeq (zRet (mM1 tJoin (zCon (.str "\n")) (zVar 2)))
    mNx)))))
theorem qm_keeper_text : m_keeper_text = zm_keeper_text := by
  unfold m_keeper_text zm_keeper_text
  simp only [q_mSeq, q_mAsg, q_tTup, q_tsCons, q_tName, q_mVar, q_mSet, q_mLc, q_mIter, q_mIf, q_mTruth, q_mCon, q_mLst, q_mCons, q_mCall, qf_line_with, qf_letters_of, q_mNil, qf_marks_of, q_mOp2, q_dAdd, q_mFor, q_mExpr, q_mMeth, q_fAppend, q_mRet]
noncomputable def zf_keeper_text : FM := zRun N_keeper_text.length zm_keeper_text
theorem qf_keeper_text : f_keeper_text = zf_keeper_text := by
  unfold f_keeper_text zf_keeper_text
  simp only [q_runDef, qm_keeper_text]
noncomputable def zm_pair_text : MS := (zSeq (zRet (mM1 tJoin (zCon (.str "\n")) (zLc (zIter (zVar 0)) (zName 1) (mPure true) (zCall zf_keeper_text (zCons (zVar 1) zNil)) [1])))
    mNx)
theorem qm_pair_text : m_pair_text = zm_pair_text := by
  unfold m_pair_text zm_pair_text
  simp only [q_mSeq, q_mRet, q_mCon, q_mLc, q_mIter, q_mVar, q_tName, q_mCall, qf_keeper_text, q_mCons, q_mNil]
noncomputable def zf_pair_text : FM := zRun N_pair_text.length zm_pair_text
theorem qf_pair_text : f_pair_text = zf_pair_text := by
  unfold f_pair_text zf_pair_text
  simp only [q_runDef, qm_pair_text]
noncomputable def zm_machine_read : MS := (zSeq (zSet 1 (mMake "Reader" zf_Reader___init__ (zCons (zVar 0) zNil)))
    (zSeq (zSet 2 (zOp2 zIx2 (mMtO "Reader" "counted_just" zf_Reader_counted_just (zVar 1) (zCons (zCon (.str "machine")) (zCons (zCon (.int 1)) zNil))) (zCon (.int 0))))
    (zSeq (zExpr (mMtO "Reader" "check" zf_Reader_check (zVar 1) (zCons (zOp2 dGt (zVar 2) (zCon (.int 0))) zNil)))
    (zSeq (zSet 3 (zLst (zCons (zOpA zTuple (zCons (mMtO "Reader" "counted_just" zf_Reader_counted_just (zVar 1) (zCons (zCon (.str "state")) (zCons (zVar 2) zNil))) zNil)) zNil)))
    (zSeq (loopW (zTruth (mMtO "Reader" "comes" zf_Reader_comes (zVar 1) (zCons (zCon (.str "state")) zNil))) (zSeq (zExpr (zMeth ckL zFAppend (zVar 3) (zCons (zOpA zTuple (zCons (mMtO "Reader" "counted_just" zf_Reader_counted_just (zVar 1) (zCons (zCon (.str "state")) (zCons (zVar 2) zNil))) zNil)) zNil)))
    mNx) 100000)
    (zSeq (zSet 4 (mMtO "Reader" "counted" zf_Reader_counted (zVar 1) (zCons (zCon (.str "ends")) zNil)))
    (zSeq (zExpr (mMtO "Reader" "check" zf_Reader_check (zVar 1) (zCons (zOpA dAll (zCons (zLc (mZip (zCons (zVar 4) (zCons (mSl (zVar 4) (mPart (zCon (.int 1))) (mPure none)) zNil))) (zTupT 2 (zsCons (zName 6) (zsCons (zName 7) tsNil))) (mPure true) (zOp2 dLt (zVar 6) (zVar 7)) [6, 7]) zNil)) zNil)))
    (zSeq (zExpr (mMtO "Reader" "end" zf_Reader_end (zVar 1) zNil))
    (zSeq (zSet 5 (zTup (zCons (zOpA zTuple (zCons (zVar 3) zNil)) (zCons (zOpA zTuple (zCons (zVar 4) zNil)) zNil))))
    (zSeq (zIfS (mNot (zTruth (zCall zf_is_machine (zCons (zVar 5) zNil)))) (zSeq (mRaise0 "Unfit")
    mNx) mNx)
    (zSeq (zRet (zVar 5))
    mNx)))))))))))
theorem qm_machine_read : m_machine_read = zm_machine_read := by
  unfold m_machine_read zm_machine_read
  simp only [q_mSeq, q_mSet, qf_Reader___init__, q_mCons, q_mVar, q_mNil, q_mOp2, q2_dIx, qf_Reader_counted_just, q_mCon, q_mExpr, qf_Reader_check, q_mLst, q_mOpA, q_dTuple, q_mTruth, qf_Reader_comes, q_mMeth, q_fAppend, qf_Reader_counted, q_mLc, q_tTup, q_tsCons, q_tName, qf_Reader_end, q_mTup, q_mIfS, q_mCall, qf_is_machine, q_mRet]
noncomputable def zf_machine_read : FM := zRun N_machine_read.length zm_machine_read
theorem qf_machine_read : f_machine_read = zf_machine_read := by
  unfold f_machine_read zf_machine_read
  simp only [q_runDef, qm_machine_read]
noncomputable def zm_event_read : MS := (zSeq (zIfS (mNot (zTruth (mMtO "Reader" "comes" zf_Reader_comes (zVar 0) (zCons (zCon (.str "put")) zNil)))) (zSeq (zRet (zTup (zCons (zOp2 zIx2 (mMtO "Reader" "counted_just" zf_Reader_counted_just (zVar 0) (zCons (zCon (.str "take")) (zCons (zCon (.int 1)) zNil))) (zCon (.int 0))) (zCons (zCon (.int 0)) zNil))))
    mNx) mNx)
    (zSeq (zAsg (zTupT 2 (zsCons (zName 1) (zsCons (zName 2) tsNil))) (mMtO "Reader" "counted_just" zf_Reader_counted_just (zVar 0) (zCons (zCon (.str "put")) (zCons (zCon (.int 2)) zNil))))
    (zSeq (zExpr (mMtO "Reader" "check" zf_Reader_check (zVar 0) (zCons (zOp2 dGt (zVar 2) (zCon (.int 0))) zNil)))
    (zSeq (zRet (zTup (zCons (zVar 1) (zCons (zVar 2) zNil))))
    mNx))))
theorem qm_event_read : m_event_read = zm_event_read := by
  unfold m_event_read zm_event_read
  simp only [q_mSeq, q_mIfS, q_mTruth, qf_Reader_comes, q_mVar, q_mCons, q_mCon, q_mNil, q_mRet, q_mTup, q_mOp2, q2_dIx, qf_Reader_counted_just, q_mAsg, q_tTup, q_tsCons, q_tName, q_mExpr, qf_Reader_check]
noncomputable def zf_event_read : FM := zRun N_event_read.length zm_event_read
theorem qf_event_read : f_event_read = zf_event_read := by
  unfold f_event_read zf_event_read
  simp only [q_runDef, qm_event_read]
noncomputable def zm_run_read : MS := (zSeq (zSet 1 (mMake "Reader" zf_Reader___init__ (zCons (zVar 0) zNil)))
    (zSeq (zExpr (mMtO "Reader" "counted_just" zf_Reader_counted_just (zVar 1) (zCons (zCon (.str "run")) (zCons (zCon (.int 0)) zNil))))
    (zSeq (zSet 2 (zLst zNil))
    (zSeq (loopW (mNot (zTruth (mMtO "Reader" "is_done" zf_Reader_is_done (zVar 1) zNil))) (zSeq (zExpr (zMeth ckL zFAppend (zVar 2) (zCons (zCall zf_event_read (zCons (zVar 1) zNil)) zNil)))
    mNx) 100000)
    (zSeq (zSet 3 (zOpA zTuple (zCons (zVar 2) zNil)))
    (zSeq (zIfS (mNot (zTruth (zCall zf_is_run (zCons (zVar 3) zNil)))) (zSeq (mRaise0 "Unfit")
    mNx) mNx)
    (zSeq (zRet (zVar 3))
    mNx)))))))
theorem qm_run_read : m_run_read = zm_run_read := by
  unfold m_run_read zm_run_read
  simp only [q_mSeq, q_mSet, qf_Reader___init__, q_mCons, q_mVar, q_mNil, q_mExpr, qf_Reader_counted_just, q_mCon, q_mLst, q_mTruth, qf_Reader_is_done, q_mMeth, q_fAppend, q_mCall, qf_event_read, q_mOpA, q_dTuple, q_mIfS, qf_is_run, q_mRet]
noncomputable def zf_run_read : FM := zRun N_run_read.length zm_run_read
theorem qf_run_read : f_run_read = zf_run_read := by
  unfold f_run_read zf_run_read
  simp only [q_runDef, qm_run_read]
noncomputable def zm_keeper_lines_read : MS := (zSeq (zAsg (zTupT 2 (zsCons (zName 5) (zsCons (zName 6) tsNil))) (mMtO "Reader" "counted_just" zf_Reader_counted_just (zVar 0) (zCons (zCon (.str "keeper")) (zCons (zCon (.int 2)) zNil))))
    (zSeq (zExpr (mMtO "Reader" "check" zf_Reader_check (zVar 0) (zCons (mAndV (zOp2 dGt (zVar 5) (zCon (.int 0))) (zOp2 dGt (zVar 6) (zCon (.int 0)))) zNil)))
    (zSeq (zSet 1 (mMtO "Reader" "behind" zf_Reader_behind (zVar 0) (zCons (zCon (.str "answers")) zNil)))
    (zSeq (zExpr (mMtO "Reader" "check" zf_Reader_check (zVar 0) (zCons (mAndV (zOp2 dGt (zOpA zLen (zCons (zVar 1) zNil)) (zCon (.int 0))) (zOpA dAll (zCons (zLc (zIter (zVar 1)) (zName 9) (mPure true) (zOp2 (dInB "ANSWERS" kvs_ANSWERS false) (zVar 9) (zCon (.gl "ANSWERS"))) [9]) zNil))) zNil)))
    (zSeq (zSet 2 (zLst zNil))
    (zSeq (zSet 3 (zLst zNil))
    (zSeq (zFor (zIter (zVar 1)) (zName 4) (zSeq (zSet 7 (mMtO "Reader" "counted_just" zf_Reader_counted_just (zVar 0) (zCons (zCon (.str "puts")) (zCons (zOp2 dMulW (zCon (.int 2)) (zVar 5)) zNil))))
    (zSeq (zSet 8 (mMtO "Reader" "counted_just" zf_Reader_counted_just (zVar 0) (zCons (zCon (.str "takes")) (zCons (zOp2 dMulW (zVar 5) (zVar 6)) zNil))))
    (zSeq (zExpr (zMeth ckL zFAppend (zVar 2) (zCons (zOpA zTuple (zCons (zLc (zRange1 (zCons (zVar 5) zNil)) (zName 10) (mPure true) (zTup (zCons (zOp2 zIx2 (zVar 7) (zOp2 dMulW (zCon (.int 2)) (zVar 10))) (zCons (zOp2 zIx2 (zVar 7) (zOp2 zAdd (zOp2 dMulW (zCon (.int 2)) (zVar 10)) (zCon (.int 1)))) zNil))) [10]) zNil)) zNil)))
    (zSeq (zExpr (zMeth ckL zFAppend (zVar 3) (zCons (zOpA zTuple (zCons (zLc (zRange1 (zCons (zVar 5) zNil)) (zName 10) (mPure true) (zOpA zTuple (zCons (mSl (zVar 8) (mPart (zOp2 dMulW (zVar 10) (zVar 6))) (mPart (zOp2 zAdd (zOp2 dMulW (zVar 10) (zVar 6)) (zVar 6)))) zNil)) [10]) zNil)) zNil)))
    mNx)))))
    (zSeq (zRet (zTup (zCons (zOpA zTuple (zCons (zLc (zIter (zVar 1)) (zName 9) (mPure true) (zOp2 (dIxB "ANSWERS" kvs_ANSWERS) (zCon (.gl "ANSWERS")) (zVar 9)) [9]) zNil)) (zCons (zOpA zTuple (zCons (zVar 2) zNil)) (zCons (zOpA zTuple (zCons (zVar 3) zNil)) zNil)))))
    mNx))))))))
theorem qm_keeper_lines_read : m_keeper_lines_read = zm_keeper_lines_read := by
  unfold m_keeper_lines_read zm_keeper_lines_read
  simp only [q_mSeq, q_mAsg, q_tTup, q_tsCons, q_tName, qf_Reader_counted_just, q_mVar, q_mCons, q_mCon, q_mNil, q_mExpr, qf_Reader_check, q_mOp2, q_mSet, qf_Reader_behind, q_mOpA, q_dLenA, q_mLc, q_mIter, q_mLst, q_mFor, q_mMeth, q_fAppend, q_dTuple, q_mRange1, q_mTup, q2_dIx, q_dAdd, q_mRet]
noncomputable def zf_keeper_lines_read : FM := zRun N_keeper_lines_read.length zm_keeper_lines_read
theorem qf_keeper_lines_read : f_keeper_lines_read = zf_keeper_lines_read := by
  unfold f_keeper_lines_read zf_keeper_lines_read
  simp only [q_runDef, qm_keeper_lines_read]
noncomputable def zm_keeper_read : MS := (zSeq (zSet 1 (mMake "Reader" zf_Reader___init__ (zCons (zVar 0) zNil)))
    (zSeq (zSet 2 (zCall zf_keeper_lines_read (zCons (zVar 1) zNil)))
    (zSeq (zExpr (mMtO "Reader" "end" zf_Reader_end (zVar 1) zNil))
    (zSeq (zIfS (mNot (zTruth (zCall zf_is_keeper (zCons (zVar 2) zNil)))) (zSeq (mRaise0 "Unfit")
    mNx) mNx)
    (zSeq (zRet (zVar 2))
    mNx)))))
theorem qm_keeper_read : m_keeper_read = zm_keeper_read := by
  unfold m_keeper_read zm_keeper_read
  simp only [q_mSeq, q_mSet, qf_Reader___init__, q_mCons, q_mVar, q_mNil, q_mCall, qf_keeper_lines_read, q_mExpr, qf_Reader_end, q_mIfS, q_mTruth, qf_is_keeper, q_mRet]
noncomputable def zf_keeper_read : FM := zRun N_keeper_read.length zm_keeper_read
theorem qf_keeper_read : f_keeper_read = zf_keeper_read := by
  unfold f_keeper_read zf_keeper_read
  simp only [q_runDef, qm_keeper_read]
noncomputable def zm_pair_read : MS := (zSeq (zSet 1 (mMake "Reader" zf_Reader___init__ (zCons (zVar 0) zNil)))
    (zSeq (zSet 2 (zCall zf_keeper_lines_read (zCons (zVar 1) zNil)))
    (zSeq (zSet 3 (zCall zf_keeper_lines_read (zCons (zVar 1) zNil)))
    (zSeq (zExpr (mMtO "Reader" "end" zf_Reader_end (zVar 1) zNil))
    (zSeq (zIfS (mNot (zTruth (zCall zf_is_pair (zCons (zTup (zCons (zVar 2) (zCons (zVar 3) zNil))) zNil)))) (zSeq (mRaise0 "Unfit")
    mNx) mNx)
    (zSeq (zRet (zTup (zCons (zVar 2) (zCons (zVar 3) zNil))))
    mNx))))))
theorem qm_pair_read : m_pair_read = zm_pair_read := by
  unfold m_pair_read zm_pair_read
  simp only [q_mSeq, q_mSet, qf_Reader___init__, q_mCons, q_mVar, q_mNil, q_mCall, qf_keeper_lines_read, q_mExpr, qf_Reader_end, q_mIfS, q_mTruth, qf_is_pair, q_mTup, q_mRet]
noncomputable def zf_pair_read : FM := zRun N_pair_read.length zm_pair_read
theorem qf_pair_read : f_pair_read = zf_pair_read := by
  unfold f_pair_read zf_pair_read
  simp only [q_runDef, qm_pair_read]
noncomputable def zm__law_lists (fm : FM) : MS := (zSeq (zRet (zIf (zTruth (zOpA dIsi (zCons (zVar 0) (zCons (zTup (zCons (zCon (.ty .list)) (zCons (zCon (.ty .tuple)) zNil))) zNil)))) (zLc (zIter (zVar 0)) (zName 1) (mPure true) (zCall fm (zCons (zVar 1) zNil)) [1]) (zVar 0)))
    mNx)
theorem qm__law_lists : m__law_lists = zm__law_lists := by
  funext fm
  unfold m__law_lists zm__law_lists
  simp only [q_mSeq, q_mRet, q_mIf, q_mTruth, q_mOpA, q_mCons, q_mVar, q_mTup, q_mCon, q_mNil, q_mLc, q_mIter, q_tName, q_mCall]
noncomputable def zf__law_lists : FM := zFuel N__law_lists zm__law_lists 40
theorem qf__law_lists : f__law_lists = zf__law_lists := by
  unfold f__law_lists zf__law_lists
  simp only [q_fuelF, qm__law_lists]
noncomputable def zm__law_same (fm : FM) : MS := (zSeq (zIfS (zTruth (zOpA dIsi (zCons (zVar 1) (zCons (zTup (zCons (zCon (.ty .list)) (zCons (zCon (.ty .tuple)) zNil))) zNil)))) (zSeq (zIfS (zOr (zB (zOp2 (zEqA true) (zOpA dIsi (zCons (zVar 0) (zCons (zCon (.ty .list)) zNil))) (zOpA dIsi (zCons (zVar 1) (zCons (zCon (.ty .list)) zNil))))) (zB (zOp2 (zEqA true) (zOpA dIsi (zCons (zVar 0) (zCons (zCon (.ty .tuple)) zNil))) (zOpA dIsi (zCons (zVar 1) (zCons (zCon (.ty .tuple)) zNil)))))) (zSeq (zRet (zCon (.bl false)))
    mNx) mNx)
    (zSeq (zRet (mAndV (zOp2 (zEqA false) (zOpA zLen (zCons (zVar 0) zNil)) (zOpA zLen (zCons (zVar 1) zNil))) (zOpA dAll (zCons (zLc (mZip (zCons (zVar 0) (zCons (zVar 1) zNil))) (zTupT 2 (zsCons (zName 2) (zsCons (zName 3) tsNil))) (mPure true) (zCall fm (zCons (zVar 2) (zCons (zVar 3) zNil))) [2, 3]) zNil))))
    mNx)) mNx)
    (zSeq (zIfS (zOr (zB (zOp2 (dIsB false) (zVar 1) (zCon .non))) (zTruth (zOpA dIsi (zCons (zVar 1) (zCons (zTup (zCons (zCon (.ty .bool)) (zCons (zCon (.ty .str)) zNil))) zNil))))) (zSeq (zRet (mAndV (zOp2 (zEqA false) (zVar 0) (zVar 1)) (mAndV (zOp2 (zEqA false) (zOpA dIsi (zCons (zVar 0) (zCons (zCon (.ty .bool)) zNil))) (zOpA dIsi (zCons (zVar 1) (zCons (zCon (.ty .bool)) zNil)))) (zOp2 (zEqA false) (zOp2 (dIsB false) (zVar 0) (zCon .non)) (zOp2 (dIsB false) (zVar 1) (zCon .non))))))
    mNx) mNx)
    (zSeq (zRet (mAndV (zOpA dIsi (zCons (zVar 0) (zCons (zCon (.ty .int)) zNil))) (mAndV (mNotV (zOpA dIsi (zCons (zVar 0) (zCons (zCon (.ty .bool)) zNil)))) (zOp2 (zEqA false) (zVar 0) (zVar 1)))))
    mNx)))
theorem qm__law_same : m__law_same = zm__law_same := by
  funext fm
  unfold m__law_same zm__law_same
  simp only [q_mSeq, q_mIfS, q_mTruth, q_mOpA, q_mCons, q_mVar, q_mTup, q_mCon, q_mNil, q_mOr, q_mB, q_mOp2, q_dEqA, q_mRet, q_dLenA, q_mLc, q_tTup, q_tsCons, q_tName, q_mCall]
noncomputable def zf__law_same : FM := zFuel N__law_same zm__law_same 40
theorem qf__law_same : f__law_same = zf__law_same := by
  unfold f__law_same zf__law_same
  simp only [q_fuelF, qm__law_same]
noncomputable def zm__law_even : MS := (zSeq (zRet (zTup (zCons (zTup (zCons (zTup (zCons (zCon (.int 1)) zNil)) (zCons (zTup (zCons (zCon (.int 0)) zNil)) zNil))) (zCons (zTup (zCons (zCon (.int 0)) zNil)) zNil))))
    mNx)
theorem qm__law_even : m__law_even = zm__law_even := by
  unfold m__law_even zm__law_even
  simp only [q_mSeq, q_mRet, q_mTup, q_mCons, q_mCon, q_mNil]
noncomputable def zf__law_even : FM := zRun N__law_even.length zm__law_even
theorem qf__law_even : f__law_even = zf__law_even := by
  unfold f__law_even zf__law_even
  simp only [q_runDef, qm__law_even]
noncomputable def zm__law_flip : MS := (zSeq (zRet (zTup (zCons (zTup (zCons (zCon (.bl true)) (zCons (zCon (.bl false)) zNil))) (zCons (zTup (zCons (zTup (zCons (zTup (zCons (zCon (.int 1)) (zCons (zCon (.int 0)) zNil))) zNil)) (zCons (zTup (zCons (zTup (zCons (zCon (.int 0)) (zCons (zCon (.int 0)) zNil))) zNil)) zNil))) (zCons (zTup (zCons (zTup (zCons (zTup (zCons (zCon (.int 1)) zNil)) zNil)) (zCons (zTup (zCons (zTup (zCons (zCon (.int 0)) zNil)) zNil)) zNil))) zNil)))))
    mNx)
theorem qm__law_flip : m__law_flip = zm__law_flip := by
  unfold m__law_flip zm__law_flip
  simp only [q_mSeq, q_mRet, q_mTup, q_mCons, q_mCon, q_mNil]
noncomputable def zf__law_flip : FM := zRun N__law_flip.length zm__law_flip
theorem qf__law_flip : f__law_flip = zf__law_flip := by
  unfold f__law_flip zf__law_flip
  simp only [q_runDef, qm__law_flip]
noncomputable def zm__law_lead : MS := (zSeq (zRet (zTup (zCons (zTup (zCons (zCon (.bl false)) (zCons (zCon (.bl true)) zNil))) (zCons (zTup (zCons (zTup (zCons (zTup (zCons (zCon (.int 1)) (zCons (zCon (.int 0)) zNil))) zNil)) (zCons (zTup (zCons (zTup (zCons (zCon (.int 0)) (zCons (zCon (.int 1)) zNil))) zNil)) zNil))) (zCons (zTup (zCons (zTup (zCons (zTup (zCons (zCon (.int 1)) zNil)) zNil)) (zCons (zTup (zCons (zTup (zCons (zCon (.int 0)) zNil)) zNil)) zNil))) zNil)))))
    mNx)
theorem qm__law_lead : m__law_lead = zm__law_lead := by
  unfold m__law_lead zm__law_lead
  simp only [q_mSeq, q_mRet, q_mTup, q_mCons, q_mCon, q_mNil]
noncomputable def zf__law_lead : FM := zRun N__law_lead.length zm__law_lead
theorem qf__law_lead : f__law_lead = zf__law_lead := by
  unfold f__law_lead zf__law_lead
  simp only [q_runDef, qm__law_lead]
noncomputable def zm__law_hear : MS := (zSeq (zRet (zTup (zCons (zTup (zCons (zCon (.bl false)) (zCons (zCon (.bl true)) zNil))) (zCons (zTup (zCons (zTup (zCons (zTup (zCons (zCon (.int 1)) (zCons (zCon (.int 0)) zNil))) zNil)) (zCons (zTup (zCons (zTup (zCons (zCon (.int 0)) (zCons (zCon (.int 0)) zNil))) zNil)) zNil))) (zCons (zTup (zCons (zTup (zCons (zTup (zCons (zCon (.int 1)) (zCons (zCon (.int 1)) zNil))) zNil)) (zCons (zTup (zCons (zTup (zCons (zCon (.int 0)) (zCons (zCon (.int 0)) zNil))) zNil)) zNil))) zNil)))))
    mNx)
theorem qm__law_hear : m__law_hear = zm__law_hear := by
  unfold m__law_hear zm__law_hear
  simp only [q_mSeq, q_mRet, q_mTup, q_mCons, q_mCon, q_mNil]
noncomputable def zf__law_hear : FM := zRun N__law_hear.length zm__law_hear
theorem qf__law_hear : f__law_hear = zf__law_hear := by
  unfold f__law_hear zf__law_hear
  simp only [q_runDef, qm__law_hear]
noncomputable def zm__law_heard : MS := (zSeq (mTry ["BadLine", "Unfit"] (zSeq (zSet 3 (mCallV 1 [((PySem.Str.ofString "machine_read"), zf_machine_read), ((PySem.Str.ofString "run_read"), zf_run_read), ((PySem.Str.ofString "keeper_read"), zf_keeper_read), ((PySem.Str.ofString "pair_read"), zf_pair_read)] (zOp2 zIx2 (zTup (zCons (zCon (.gl (PySem.Str.ofString "machine_read"))) (zCons (zCon (.gl (PySem.Str.ofString "run_read"))) (zCons (zCon (.gl (PySem.Str.ofString "keeper_read"))) (zCons (zCon (.gl (PySem.Str.ofString "pair_read"))) zNil))))) (zVar 0)) (zCons (zVar 1) zNil)))
    mNx) [⟨"BadLine", (some 2), (fun c fs => zSet 3 (mXL (xCons (xC (.str "line")) (xCons (xAt "BadLine" "line") (xCons (xIsi "BadLine" true) xNil))) c fs))⟩, ⟨"Unfit", (some 2), (fun c fs => zSet 3 (mXL (xCons (xC (.str "unfit")) (xCons (xIsi "Unfit" true) xNil)) c fs))⟩])
    (zSeq (zRet (zVar 3))
    mNx))
theorem qm__law_heard : m__law_heard = zm__law_heard := by
  unfold m__law_heard zm__law_heard
  simp only [q_mSeq, q_mSet, qf_machine_read, qf_run_read, qf_keeper_read, qf_pair_read, q_mOp2, q2_dIx, q_mTup, q_mCons, q_mCon, q_mNil, q_mVar, q_mRet]
noncomputable def zf__law_heard : FM := zRun N__law_heard.length zm__law_heard
theorem qf__law_heard : f__law_heard = zf__law_heard := by
  unfold f__law_heard zf__law_heard
  simp only [q_runDef, qm__law_heard]
noncomputable def zm__law_flip_text : MS := (zSeq (zRet (zCon (.str "keeper 1 1\nanswers yes no\nputs 1 0\ntakes 1\nputs 0 0\ntakes 0")))
    mNx)
theorem qm__law_flip_text : m__law_flip_text = zm__law_flip_text := by
  unfold m__law_flip_text zm__law_flip_text
  simp only [q_mSeq, q_mRet, q_mCon]
noncomputable def zf__law_flip_text : FM := zRun N__law_flip_text.length zm__law_flip_text
theorem qf__law_flip_text : f__law_flip_text = zf__law_flip_text := by
  unfold f__law_flip_text zf__law_flip_text
  simp only [q_runDef, qm__law_flip_text]
noncomputable def zm__law_two_text : MS := (zSeq (zRet (zCon (.str "keeper 1 1\nanswers no yes\nputs 1 0\ntakes 1\nputs 0 1\ntakes 0\nkeeper 1 2\nanswers no yes\nputs 1 0\ntakes 1 1\nputs 0 0\ntakes 0 0")))
    mNx)
theorem qm__law_two_text : m__law_two_text = zm__law_two_text := by
  unfold m__law_two_text zm__law_two_text
  simp only [q_mSeq, q_mRet, q_mCon]
noncomputable def zf__law_two_text : FM := zRun N__law_two_text.length zm__law_two_text
theorem qf__law_two_text : f__law_two_text = zf__law_two_text := by
  unfold f__law_two_text zf__law_two_text
  simp only [q_runDef, qm__law_two_text]
noncomputable def zm__law_always_right : MS := (zSeq (zSet 0 (zTup (zCons (zTup (zCons (zCon (.int 0)) (zCons (zCon (.int 1)) zNil))) (zCons (zTup (zCons (zCon (.int 1)) (zCons (zCon (.int 2)) zNil))) (zCons (zTup (zCons (zCon (.int 1)) (zCons (zCon (.int 0)) zNil))) (zCons (zTup (zCons (zCon (.int 0)) (zCons (zCon (.int 0)) zNil))) zNil))))))
    (zSeq (zSet 1 (zLst (zCons (zCall zf_machine_text (zCons (zCall zf__law_even zNil) zNil)) (zCons (zCall zf__law_heard (zCons (zCon (.int 0)) (zCons (zCon (.str "machine 2\nstate 0 0\nends")) zNil))) (zCons (zCall zf_run_text (zCons (zVar 0) zNil)) (zCons (zCall zf__law_heard (zCons (zCon (.int 1)) (zCons (zCon (.str "run")) zNil))) zNil))))))
    (zSeq (zSet 2 (zLst (zCons (zCon (.str "machine 1\nstate 1\nstate 0\nends 0")) (zCons (zTup (zCons (zTup (zCons (zTup (zCons (zCon (.int 0)) (zCons (zCon (.int 0)) zNil))) zNil)) (zCons (zTup zNil) zNil))) (zCons (zCon (.str "run\nput 0 1\nput 1 2\ntake 1\ntake 0")) (zCons (zTup zNil) zNil))))))
    (zSeq (zSet 1 (zOp2 zAdd (zVar 1) (zLst (zCons (zCall zf_keeper_text (zCons (zCall zf__law_flip zNil) zNil)) (zCons (zCall zf__law_heard (zCons (zCon (.int 2)) (zCons (zCall zf__law_flip_text zNil) zNil))) (zCons (zCall zf_pair_text (zCons (zTup (zCons (zCall zf__law_lead zNil) (zCons (zCall zf__law_hear zNil) zNil))) zNil)) zNil))))))
    (zSeq (zSet 1 (zOp2 zAdd (zVar 1) (zLst (zCons (zCall zf__law_heard (zCons (zCon (.int 3)) (zCons (zCall zf__law_two_text zNil) zNil))) zNil))))
    (zSeq (zSet 2 (zOp2 zAdd (zVar 2) (zLst (zCons (zCall zf__law_flip_text zNil) (zCons (zCall zf__law_flip zNil) (zCons (zCall zf__law_two_text zNil) (zCons (zTup (zCons (zCall zf__law_lead zNil) (zCons (zCall zf__law_hear zNil) zNil))) zNil)))))))
    (zSeq (zSet 1 (zOp2 zAdd (zVar 1) (zLst (zCons (zCall zf__law_heard (zCons (zCon (.int 1)) (zCons (zCon (.str "run\nput 0 0")) zNil))) (zCons (zCall zf__law_heard (zCons (zCon (.int 1)) (zCons (zCon (.str "run\nput 0 1\ntake 0")) zNil))) (zCons (zCall zf__law_heard (zCons (zCon (.int 2)) (zCons (zCon (.str "keeper 1 1\nanswers yes\nputs 0 0")) zNil))) zNil))))))
    (zSeq (zSet 1 (zOp2 zAdd (zVar 1) (zLst (zCons (zCall zf__law_heard (zCons (zCon (.int 3)) (zCons (zOp2 dAddS (zCall zf__law_two_text zNil) (zCon (.str "\n"))) zNil))) zNil))))
    (zSeq (zRet (zCall zf__law_same (zCons (zVar 1) (zCons (zOp2 zAdd (zVar 2) (zLst (zCons (zLst (zCons (zCon (.str "line")) (zCons (zCon (.int 2)) (zCons (zCon (.bl true)) zNil)))) (zCons (zLst (zCons (zCon (.str "unfit")) (zCons (zCon (.bl true)) zNil))) (zCons (zLst (zCons (zCon (.str "line")) (zCons (zCon (.int 4)) (zCons (zCon (.bl true)) zNil)))) (zCons (zLst (zCons (zCon (.str "line")) (zCons (zCon (.int 13)) (zCons (zCon (.bl true)) zNil)))) zNil)))))) zNil))))
    mNx)))))))))
theorem qm__law_always_right : m__law_always_right = zm__law_always_right := by
  unfold m__law_always_right zm__law_always_right
  simp only [q_mSeq, q_mSet, q_mTup, q_mCons, q_mCon, q_mNil, q_mLst, q_mCall, qf_machine_text, qf__law_even, qf__law_heard, qf_run_text, q_mVar, q_mOp2, q_dAdd, qf_keeper_text, qf__law_flip, qf__law_flip_text, qf_pair_text, qf__law_lead, qf__law_hear, qf__law_two_text, q_mRet, qf__law_same]
noncomputable def zf__law_always_right : FM := zRun N__law_always_right.length zm__law_always_right
theorem qf__law_always_right : f__law_always_right = zf__law_always_right := by
  unfold f__law_always_right zf__law_always_right
  simp only [q_runDef, qm__law_always_right]
noncomputable def zm__law_told_right : MS := (zSeq (mPar [5, 6, 7] (zCons (zCall zf__law_even zNil) (zCons (zCall zf__law_flip zNil) (zCons (zTup (zCons (zCall zf__law_lead zNil) (zCons (zCall zf__law_hear zNil) zNil))) zNil))))
    (zSeq (zSet 0 (zTup (zCons (zTup (zCons (zCon (.int 1)) (zCons (zCon (.int 3)) zNil))) (zCons (zTup (zCons (zCon (.int 0)) (zCons (zCon (.int 0)) zNil))) (zCons (zTup (zCons (zCon (.int 0)) (zCons (zCon (.int 1)) zNil))) (zCons (zTup (zCons (zCon (.int 0)) (zCons (zCon (.int 2)) zNil))) (zCons (zTup (zCons (zCon (.int 1)) (zCons (zCon (.int 0)) zNil))) zNil)))))))
    (zSeq (zSet 1 (zCon (.str "run\nput 1 3\ntake 0\nput 0 1\nput 0 2\ntake 1")))
    (zSeq (zSet 2 (zLst (zCons (mCallK zf_machine_text 0 1 [0] 1 zNil (zCons (zCall zf__law_lists (zCons (zVar 5) zNil)) zNil)) (zCons (mCallK zf_machine_read 0 1 [0] 1 zNil (zCons (zCall zf_machine_text (zCons (zVar 5) zNil)) zNil)) (zCons (mCallK zf_run_text 0 1 [0] 1 zNil (zCons (zCall zf__law_lists (zCons (zVar 0) zNil)) zNil)) zNil)))))
    (zSeq (zSet 2 (zOp2 zAdd (zVar 2) (zLst (zCons (mCallK zf_run_read 0 1 [0] 1 zNil (zCons (zVar 1) zNil)) zNil))))
    (zSeq (zSet 3 (zLst (zCons (zCon (.str "machine 1\nstate 1\nstate 0\nends 0")) (zCons (zVar 5) (zCons (zVar 1) (zCons (zVar 0) zNil))))))
    (zSeq (zSet 2 (zOp2 zAdd (zVar 2) (zLst (zCons (mCallK zf_keeper_text 0 1 [0] 1 zNil (zCons (zCall zf__law_lists (zCons (zVar 6) zNil)) zNil)) (zCons (mCallK zf_keeper_read 0 1 [0] 1 zNil (zCons (zCall zf_keeper_text (zCons (zVar 6) zNil)) zNil)) (zCons (mCallK zf_pair_text 0 1 [0] 1 zNil (zCons (zCall zf__law_lists (zCons (zVar 7) zNil)) zNil)) zNil))))))
    (zSeq (zSet 2 (zOp2 zAdd (zVar 2) (zLst (zCons (mCallK zf_pair_read 0 1 [0] 1 zNil (zCons (zCall zf_pair_text (zCons (zVar 7) zNil)) zNil)) zNil))))
    (zSeq (zSet 3 (zOp2 zAdd (zVar 3) (zLst (zCons (zCall zf__law_flip_text zNil) (zCons (zVar 6) (zCons (zCall zf__law_two_text zNil) (zCons (zVar 7) zNil)))))))
    (zSeq (zSet 4 (zTup (zCons (zTup (zCons (zCon (.bl true)) zNil)) (zCons (zTup (zCons (zTup (zCons (zTup (zCons (zCon (.int 0)) (zCons (zCon (.int 0)) zNil))) (zCons (zTup (zCons (zCon (.int 0)) (zCons (zCon (.int 3)) zNil))) zNil))) zNil)) (zCons (zTup (zCons (zTup (zCons (zTup (zCons (zCon (.int 0)) (zCons (zCon (.int 0)) zNil))) (zCons (zTup (zCons (zCon (.int 0)) (zCons (zCon (.int 0)) zNil))) zNil))) zNil)) zNil)))))
    (zSeq (zSet 2 (zOp2 zAdd (zVar 2) (zLst (zCons (zCall zf_keeper_text (zCons (zVar 4) zNil)) (zCons (zCall zf_keeper_read (zCons (zCon (.str "keeper 2 3\nanswers no\nputs 0 7 0 0\ntakes 0 0 0 0 0 0")) zNil)) (zCons (zCall zf_run_text (zCons (zTup zNil) zNil)) zNil))))))
    (zSeq (zSet 2 (zOp2 zAdd (zVar 2) (zLst (zCons (zCall zf_run_text (zCons (zTup (zCons (zTup (zCons (zCon (.int 1)) (zCons (zCon (.int 1)) zNil))) zNil)) zNil)) zNil))))
    (zSeq (zSet 3 (zOp2 zAdd (zVar 3) (zLst (zCons (zCon (.str "keeper 2 2\nanswers yes\nputs 0 0 0 3\ntakes 0 0 0 0")) (zCons (zTup (zCons (zTup (zCons (zCon (.bl false)) zNil)) (zCons (zTup (zCons (zTup (zCons (zTup (zCons (zCon (.int 0)) (zCons (zCon (.int 7)) zNil))) (zCons (zTup (zCons (zCon (.int 0)) (zCons (zCon (.int 0)) zNil))) zNil))) zNil)) (zCons (zTup (zCons (zTup (zCons (zTup (zCons (zCon (.int 0)) (zCons (zCon (.int 0)) (zCons (zCon (.int 0)) zNil)))) (zCons (zTup (zCons (zCon (.int 0)) (zCons (zCon (.int 0)) (zCons (zCon (.int 0)) zNil)))) zNil))) zNil)) zNil)))) (zCons (zCon (.str "run")) zNil))))))
    (zSeq (zSet 3 (zOp2 zAdd (zVar 3) (zLst (zCons (zCon (.str "run\nput 1 1")) zNil))))
    (zSeq (zSet 2 (zOp2 zAdd (zVar 2) (zLst (zCons (zCall zf_run_read (zCons (zCon (.str "run\nput 1 999999999999")) zNil)) (zCons (zCall zf_keeper_read (zCons (zCon (.str "keeper 1 1\nanswers yes\nputs 0 999999999999\ntakes 0")) zNil)) zNil)))))
    (zSeq (zSet 3 (zOp2 zAdd (zVar 3) (zLst (zCons (zTup (zCons (zTup (zCons (zCon (.int 1)) (zCons (zCon (.int 999999999999)) zNil))) zNil)) (zCons (zTup (zCons (zTup (zCons (zCon (.bl true)) zNil)) (zCons (zTup (zCons (zTup (zCons (zTup (zCons (zCon (.int 0)) (zCons (zCon (.int 999999999999)) zNil))) zNil)) zNil)) (zCons (zTup (zCons (zTup (zCons (zTup (zCons (zCon (.int 0)) zNil)) zNil)) zNil)) zNil)))) zNil)))))
    (zSeq (zSet 2 (zOp2 zAdd (zVar 2) (zLst (zCons (zCall zf_keeper_read (zCons (zCon (.str "keeper 1 2\nanswers yes no\nputs 1 0\ntakes 0 1\nputs 0 0\ntakes 1 0")) zNil)) zNil))))
    (zSeq (zSet 2 (zOp2 zAdd (zVar 2) (zLst (zCons (zCall zf_machine_text (zCons (zTup (zCons (zTup (zCons (zTup (zCons (zCon (.int 0)) (zCons (zCon (.int 1)) zNil))) (zCons (zTup (zCons (zCon (.int 1)) (zCons (zCon (.int 1)) zNil))) zNil))) (zCons (zTup (zCons (zCon (.int 0)) (zCons (zCon (.int 1)) zNil))) zNil))) zNil)) zNil))))
    (zSeq (zSet 3 (zOp2 zAdd (zVar 3) (zLst (zCons (zTup (zCons (zTup (zCons (zCon (.bl true)) (zCons (zCon (.bl false)) zNil))) (zCons (zTup (zCons (zTup (zCons (zTup (zCons (zCon (.int 1)) (zCons (zCon (.int 0)) zNil))) zNil)) (zCons (zTup (zCons (zTup (zCons (zCon (.int 0)) (zCons (zCon (.int 0)) zNil))) zNil)) zNil))) (zCons (zTup (zCons (zTup (zCons (zTup (zCons (zCon (.int 0)) (zCons (zCon (.int 1)) zNil))) zNil)) (zCons (zTup (zCons (zTup (zCons (zCon (.int 1)) (zCons (zCon (.int 0)) zNil))) zNil)) zNil))) zNil)))) (zCons (zCon (.str "machine 2\nstate 0 1\nstate 1 1\nends 0 1")) zNil)))))
    (zSeq (zRet (zCall zf__law_same (zCons (zVar 2) (zCons (zVar 3) zNil))))
    mNx))))))))))))))))))))
theorem qm__law_told_right : m__law_told_right = zm__law_told_right := by
  unfold m__law_told_right zm__law_told_right
  simp only [q_mSeq, q_mCons, q_mCall, qf__law_even, q_mNil, qf__law_flip, q_mTup, qf__law_lead, qf__law_hear, q_mSet, q_mCon, q_mLst, qf_machine_text, qf__law_lists, q_mVar, qf_machine_read, qf_run_text, q_mOp2, q_dAdd, qf_run_read, qf_keeper_text, qf_keeper_read, qf_pair_text, qf_pair_read, qf__law_flip_text, qf__law_two_text, q_mRet, qf__law_same]
noncomputable def zf__law_told_right : FM := zRun N__law_told_right.length zm__law_told_right
theorem qf__law_told_right : f__law_told_right = zf__law_told_right := by
  unfold f__law_told_right zf__law_told_right
  simp only [q_runDef, qm__law_told_right]
noncomputable def zm__law_lines_right : MS := (zSeq (zAsg (zTupT 2 (zsCons (zName 3) (zsCons (zName 4) tsNil))) (zTup (zCons (zCall zf__law_flip_text zNil) (zCons (zCall zf__law_two_text zNil) zNil))))
    (zSeq (zSet 0 (zLc (zIter (zTup (zCons (zCon (.str "")) (zCons (zCon (.str "machine")) (zCons (zCon (.str "machine 0")) (zCons (zCon (.str "machine 01")) (zCons (zCon (.str "machine 1 1")) (zCons (zCon (.str " machine 1")) (zCons (zCon (.str "machines 1")) (zCons (zCon (.str "machine -1")) zNil)))))))))) (zName 5) (mPure true) (zTup (zCons (zCon (.int 0)) (zCons (zVar 5) (zCons (zCon (.int 1)) zNil)))) [5]))
    (zSeq (zSet 0 (zOp2 dAddS (zVar 0) (zLc (zIter (zTup (zCons (zCon (.str "")) (zCons (zCon (.str "\nends")) (zCons (zCon (.str "\nstate")) (zCons (zCon (.str "\nstate 0 0")) (zCons (zCon (.str "\nstate  0")) zNil))))))) (zName 5) (mPure true) (zTup (zCons (zCon (.int 0)) (zCons (zOp2 dAddS (zCon (.str "machine 1")) (zVar 5)) (zCons (zCon (.int 2)) zNil)))) [5])))
    (zSeq (zSet 0 (zOp2 dAddS (zVar 0) (zLst (zCons (zTup (zCons (zCon (.int 0)) (zCons (zCon (.str "machine 2\nstate 0")) (zCons (zCon (.int 2)) zNil)))) (zCons (zTup (zCons (zCon (.int 0)) (zCons (zCon (.str "machine 1\nstate 9\nends 1 1")) (zCons (zCon (.int 3)) zNil)))) zNil)))))
    (zSeq (zSet 0 (zOp2 dAddS (zVar 0) (zLc (zIter (zTup (zCons (zCon (.str "")) (zCons (zCon (.str "\nstates 0")) (zCons (zCon (.str "\nends 0 0")) (zCons (zCon (.str "\nends 1 0")) (zCons (zCon (.str "\nends 00")) (zCons (zCon (.str "\nends 0 ")) (zCons (zCon (.str "\n")) zNil))))))))) (zName 5) (mPure true) (zTup (zCons (zCon (.int 0)) (zCons (zOp2 dAddS (zCon (.str "machine 1\nstate 0")) (zVar 5)) (zCons (zCon (.int 3)) zNil)))) [5])))
    (zSeq (zSet 0 (zOp2 dAddS (zVar 0) (zLc (zIter (zTup (zCons (zCon (.str "\n")) (zCons (zCon (.str "\nends 0")) zNil)))) (zName 5) (mPure true) (zTup (zCons (zCon (.int 0)) (zCons (zOp2 dAddS (zCon (.str "machine 1\nstate 0\nends 0")) (zVar 5)) (zCons (zCon (.int 4)) zNil)))) [5])))
    (zSeq (zSet 0 (zOp2 dAddS (zVar 0) (zLc (zIter (zTup (zCons (zCon (.str "")) (zCons (zCon (.str "runs")) (zCons (zCon (.str "run 1")) (zCons (zCon (.str " run")) (zCons (zCon (.str "run ")) (zCons (zCon (.str "put 0 1")) (zCons (zCon (.str "\nrun")) zNil))))))))) (zName 5) (mPure true) (zTup (zCons (zCon (.int 1)) (zCons (zVar 5) (zCons (zCon (.int 1)) zNil)))) [5])))
    (zSeq (zSet 0 (zOp2 dAddS (zVar 0) (zLc (zIter (zTup (zCons (zCon (.str "")) (zCons (zCon (.str "put 0")) (zCons (zCon (.str "put 0 1 1")) (zCons (zCon (.str "put 0 0")) (zCons (zCon (.str "put 0 x")) (zCons (zCon (.str "take")) (zCons (zCon (.str "take 0 0")) zNil))))))))) (zName 5) (mPure true) (zTup (zCons (zCon (.int 1)) (zCons (zOp2 dAddS (zCon (.str "run\n")) (zVar 5)) (zCons (zCon (.int 2)) zNil)))) [5])))
    (zSeq (zSet 0 (zOp2 dAddS (zVar 0) (zLc (zIter (zTup (zCons (zCon (.str "takes 0")) (zCons (zCon (.str "put 00 1")) (zCons (zCon (.str "put 0  1")) (zCons (zCon (.str "put -1 1")) (zCons (zCon (.str "run")) zNil))))))) (zName 5) (mPure true) (zTup (zCons (zCon (.int 1)) (zCons (zOp2 dAddS (zCon (.str "run\n")) (zVar 5)) (zCons (zCon (.int 2)) zNil)))) [5])))
    (zSeq (zSet 0 (zOp2 dAddS (zVar 0) (zLst (zCons (zTup (zCons (zCon (.int 1)) (zCons (zCon (.str "run\ntake 0\nput 0 0")) (zCons (zCon (.int 3)) zNil)))) (zCons (zTup (zCons (zCon (.int 1)) (zCons (zCon (.str "run\nput 0 1\ntake 1\n")) (zCons (zCon (.int 4)) zNil)))) zNil)))))
    (zSeq (zSet 0 (zOp2 dAddS (zVar 0) (zLc (zIter (zTup (zCons (zCon (.str "")) (zCons (zCon (.str "keeper 1")) (zCons (zCon (.str "keeper 0 1")) (zCons (zCon (.str "keeper 1 0")) (zCons (zCon (.str "keeper 1 1 1")) (zCons (zCon (.str "keepers 1 1")) zNil)))))))) (zName 5) (mPure true) (zTup (zCons (zCon (.int 2)) (zCons (zVar 5) (zCons (zCon (.int 1)) zNil)))) [5])))
    (zSeq (zSet 0 (zOp2 dAddS (zVar 0) (zLc (zIter (zTup (zCons (zCon (.str "")) (zCons (zCon (.str "\nanswers")) (zCons (zCon (.str "\nanswers maybe")) (zCons (zCon (.str "\nanswers yes  no")) (zCons (zCon (.str "\nputs 0 0")) zNil))))))) (zName 5) (mPure true) (zTup (zCons (zCon (.int 2)) (zCons (zOp2 dAddS (zCon (.str "keeper 1 1")) (zVar 5)) (zCons (zCon (.int 2)) zNil)))) [5])))
    (zSeq (zSet 1 (zCon (.str "keeper 1 1\nanswers no")))
    (zSeq (zSet 0 (zOp2 dAddS (zVar 0) (zLc (zIter (zTup (zCons (zCon (.str "")) (zCons (zCon (.str "\n")) (zCons (zCon (.str "\nputs 0")) (zCons (zCon (.str "\nputs 0 0 0")) (zCons (zCon (.str "\ntakes 0")) (zCons (zCon (.str "\nputs 0 x")) zNil)))))))) (zName 5) (mPure true) (zTup (zCons (zCon (.int 2)) (zCons (zOp2 dAddS (zVar 1) (zVar 5)) (zCons (zCon (.int 3)) zNil)))) [5])))
    (zSeq (zSet 0 (zOp2 dAddS (zVar 0) (zLc (zIter (zTup (zCons (zCon (.str "")) (zCons (zCon (.str "\n")) (zCons (zCon (.str "\ntakes")) (zCons (zCon (.str "\ntakes 0 0")) (zCons (zCon (.str "\nputs 0 0")) zNil))))))) (zName 5) (mPure true) (zTup (zCons (zCon (.int 2)) (zCons (zOp2 dAddS (zOp2 dAddS (zVar 1) (zCon (.str "\nputs 0 0"))) (zVar 5)) (zCons (zCon (.int 4)) zNil)))) [5])))
    (zSeq (zSet 0 (zOp2 dAddS (zVar 0) (zLc (zIter (zTup (zCons (zCon (.str "\n")) (zCons (zCon (.str "\ntakes 0")) (zCons (zCon (.str "\nkeeper 1 1")) zNil))))) (zName 5) (mPure true) (zTup (zCons (zCon (.int 2)) (zCons (zOp2 dAddS (zVar 3) (zVar 5)) (zCons (zCon (.int 7)) zNil)))) [5])))
    (zSeq (zSet 0 (zOp2 dAddS (zVar 0) (zLst (zCons (zTup (zCons (zCon (.int 2)) (zCons (zCon (.str "keeper 1 2\nanswers no\nputs 0 0\ntakes 0")) (zCons (zCon (.int 4)) zNil)))) (zCons (zTup (zCons (zCon (.int 2)) (zCons (zCon (.str "keeper 2 1\nanswers no\nputs 0 0")) (zCons (zCon (.int 3)) zNil)))) zNil)))))
    (zSeq (zSet 0 (zOp2 dAddS (zVar 0) (zLst (zCons (zTup (zCons (zCon (.int 2)) (zCons (zOp2 dAddS (zVar 1) (zCon (.str "\nputs 9 0\ntakes 0 0"))) (zCons (zCon (.int 4)) zNil)))) (zCons (zTup (zCons (zCon (.int 3)) (zCons (zCon (.str "")) (zCons (zCon (.int 1)) zNil)))) (zCons (zTup (zCons (zCon (.int 3)) (zCons (zVar 3) (zCons (zCon (.int 7)) zNil)))) (zCons (zTup (zCons (zCon (.int 3)) (zCons (zOp2 dAddS (zVar 3) (zCon (.str "\n"))) (zCons (zCon (.int 7)) zNil)))) zNil)))))))
    (zSeq (zSet 0 (zOp2 dAddS (zVar 0) (zLst (zCons (zTup (zCons (zCon (.int 3)) (zCons (zOp2 dAddS (zVar 3) (zCon (.str "\nkeeper 0 1"))) (zCons (zCon (.int 7)) zNil)))) (zCons (zTup (zCons (zCon (.int 3)) (zCons (zOp2 dAddS (zVar 3) (zCon (.str "\nkeeper 1 1"))) (zCons (zCon (.int 8)) zNil)))) (zCons (zTup (zCons (zCon (.int 3)) (zCons (zOp2 dAddS (zVar 4) (zCon (.str "\nkeeper 1 1"))) (zCons (zCon (.int 13)) zNil)))) zNil))))))
    (zSeq (zSet 2 (zLc (zIter (zVar 0)) (zName 5) (mPure true) (zCall zf__law_heard (zCons (zOp2 zIx2 (zVar 5) (zCon (.int 0))) (zCons (zOp2 zIx2 (zVar 5) (zCon (.int 1))) zNil))) [5]))
    (zSeq (zRet (zCall zf__law_same (zCons (zVar 2) (zCons (zLc (zIter (zVar 0)) (zName 5) (mPure true) (zLst (zCons (zCon (.str "line")) (zCons (zOp2 zIx2 (zVar 5) (zCon (.int 2))) (zCons (zCon (.bl true)) zNil)))) [5]) zNil))))
    mNx)))))))))))))))))))))
theorem qm__law_lines_right : m__law_lines_right = zm__law_lines_right := by
  unfold m__law_lines_right zm__law_lines_right
  simp only [q_mSeq, q_mAsg, q_tTup, q_tsCons, q_tName, q_mTup, q_mCons, q_mCall, qf__law_flip_text, q_mNil, qf__law_two_text, q_mSet, q_mLc, q_mIter, q_mCon, q_mVar, q_mOp2, q_mLst, qf__law_heard, q2_dIx, q_mRet, qf__law_same]
noncomputable def zf__law_lines_right : FM := zRun N__law_lines_right.length zm__law_lines_right
theorem qf__law_lines_right : f__law_lines_right = zf__law_lines_right := by
  unfold f__law_lines_right zf__law_lines_right
  simp only [q_runDef, qm__law_lines_right]
noncomputable def zm__law_unfit_right : MS := (zSeq (mPar [3, 4] (zCons (zCall zf__law_flip_text zNil) (zCons (zCall zf__law_two_text zNil) zNil)))
    (zSeq (zSet 0 (zLst (zCons (zTup (zCons (zCon (.int 0)) (zCons (zCon (.str "machine 1\nstate 1\nends")) zNil))) (zCons (zTup (zCons (zCon (.int 0)) (zCons (zCon (.str "machine 1\nstate 0\nends 1")) zNil))) (zCons (zTup (zCons (zCon (.int 0)) (zCons (zCon (.str "machine 2\nstate 0 1\nstate 0 2\nends 0")) zNil))) zNil)))))
    (zSeq (zSet 0 (zOp2 zAdd (zVar 0) (zLc (zIter (zTup (zCons (zCon (.str "take 0")) (zCons (zCon (.str "put 0 1\ntake 0")) (zCons (zCon (.str "put 2 1")) (zCons (zCon (.str "put 0 1\ntake 1\ntake 1")) (zCons (zCon (.str "take 2")) zNil))))))) (zName 5) (mPure true) (zTup (zCons (zCon (.int 1)) (zCons (zOp2 dAddS (zCon (.str "run\n")) (zVar 5)) zNil))) [5])))
    (zSeq (zSet 0 (zOp2 zAdd (zVar 0) (zLc (zIter (zTup (zCons (zCon (.str "take 1\nput 0 1")) zNil))) (zName 5) (mPure true) (zTup (zCons (zCon (.int 1)) (zCons (zOp2 dAddS (zCon (.str "run\n")) (zVar 5)) zNil))) [5])))
    (zSeq (zSet 0 (zOp2 zAdd (zVar 0) (zLst (zCons (zTup (zCons (zCon (.int 2)) (zCons (zOp1 (dRepl "puts 1 0" "puts 2 0") (zVar 3)) zNil))) (zCons (zTup (zCons (zCon (.int 2)) (zCons (zOp1 (dRepl "takes 1" "takes 2") (zVar 3)) zNil))) zNil)))))
    (zSeq (zSet 0 (zOp2 zAdd (zVar 0) (zLst (zCons (zTup (zCons (zCon (.int 2)) (zCons (zCon (.str "keeper 1 2\nanswers no\nputs 0 0\ntakes 0 1")) zNil))) zNil))))
    (zSeq (zSet 1 (zCon (.str "keeper 2 1\nanswers yes\nputs 0 0 0 0\ntakes 0 0")))
    (zSeq (zSet 0 (zOp2 zAdd (zVar 0) (zLst (zCons (zTup (zCons (zCon (.int 3)) (zCons (zOp2 dAddS (zOp2 dAddS (zVar 3) (zCon (.str "\n"))) (zVar 1)) zNil))) (zCons (zTup (zCons (zCon (.int 3)) (zCons (zOp2 dAddS (zOp2 dAddS (zVar 1) (zCon (.str "\n"))) (zVar 3)) zNil))) (zCons (zTup (zCons (zCon (.int 3)) (zCons (zOp2 dAddS (zOp2 dAddS (zVar 3) (zCon (.str "\n"))) (zOp1 (dRepl "puts 0 0" "puts 0 1") (zVar 3))) zNil))) zNil))))))
    (zSeq (zSet 0 (zOp2 zAdd (zVar 0) (zLst (zCons (zTup (zCons (zCon (.int 3)) (zCons (zOp1 (dRepl "puts 0 1" "puts 0 2") (zVar 4)) zNil))) (zCons (zTup (zCons (zCon (.int 3)) (zCons (zOp2 dAddS (zOp2 dAddS (zVar 3) (zCon (.str "\n"))) (zOp1 (dRepl "takes 1" "takes 2") (zVar 3))) zNil))) zNil)))))
    (zSeq (zSet 2 (zLc (zIter (zVar 0)) (zName 5) (mPure true) (zCall zf__law_heard (zCons (zOp2 zIx2 (zVar 5) (zCon (.int 0))) (zCons (zOp2 zIx2 (zVar 5) (zCon (.int 1))) zNil))) [5]))
    (zSeq (zRet (zCall zf__law_same (zCons (zVar 2) (zCons (zOp2 dMulW (zLst (zCons (zLst (zCons (zCon (.str "unfit")) (zCons (zCon (.bl true)) zNil))) zNil)) (zOpA zLen (zCons (zVar 0) zNil))) zNil))))
    mNx)))))))))))
theorem qm__law_unfit_right : m__law_unfit_right = zm__law_unfit_right := by
  unfold m__law_unfit_right zm__law_unfit_right
  simp only [q_mSeq, q_mCons, q_mCall, qf__law_flip_text, q_mNil, qf__law_two_text, q_mSet, q_mLst, q_mTup, q_mCon, q_mOp2, q_dAdd, q_mVar, q_mLc, q_mIter, q_tName, q_mOp1, qf__law_heard, q2_dIx, q_mRet, qf__law_same, q_mOpA, q_dLenA]
noncomputable def zf__law_unfit_right : FM := zRun N__law_unfit_right.length zm__law_unfit_right
theorem qf__law_unfit_right : f__law_unfit_right = zf__law_unfit_right := by
  unfold f__law_unfit_right zf__law_unfit_right
  simp only [q_runDef, qm__law_unfit_right]
noncomputable def zm_law_c : MS := (zSeq (zRet (mCallV 0 [((PySem.Str.ofString "_law_told_right"), zf__law_told_right), ((PySem.Str.ofString "_law_lines_right"), zf__law_lines_right), ((PySem.Str.ofString "_law_unfit_right"), zf__law_unfit_right)] (zOp2 zIx2 (zLst (zCons (zCon (.gl (PySem.Str.ofString "_law_told_right"))) (zCons (zCon (.gl (PySem.Str.ofString "_law_lines_right"))) (zCons (zCon (.gl (PySem.Str.ofString "_law_unfit_right"))) zNil)))) (zVar 1)) zNil))
    mNx)
theorem qm_law_c : m_law_c = zm_law_c := by
  unfold m_law_c zm_law_c
  simp only [q_mSeq, q_mRet, qf__law_told_right, qf__law_lines_right, qf__law_unfit_right, q_mOp2, q2_dIx, q_mLst, q_mCons, q_mCon, q_mNil, q_mVar]
end Gn

set_option Elab.async false
set_option linter.all false
set_option maxRecDepth 100000
set_option maxHeartbeats 4000000
set_option autoImplicit false
namespace Gn
open PySem PySem.Spec PyProof.Rows L2 Rh
section
variable [Tbs]
theorem tru_a : isTrue (f__law_always_right [] h0) = true := by rw [qf__law_always_right]; kernel_rfl
theorem rt_0 (x0 : Option D) : rtT (m_law_c [x0, some (.int 0)] h0) = true := by rw [qm_law_c]; kernel_rfl
theorem rt_1 (x0 : Option D) : rtT (m_law_c [x0, some (.int 1)] h0) = true := by rw [qm_law_c]; kernel_rfl
theorem rt_2 (x0 : Option D) : rtT (m_law_c [x0, some (.int 2)] h0) = true := by rw [qm_law_c]; kernel_rfl
theorem law_at (ns : List Int) (hl : ns.length ≤ 63) (hb : ∀ z ∈ ns, Builtin.Int.intBits z ≤ 1048576) (h : Hs) (hh : h.n < 900000) (hk : h.lk = []) (sc : D) (hs : sc = .scr (ns.map .int) ∨ ∃ b0, sc = .box b0 ∧ b0 < h.n ∧ h.get b0 = some (.lst (ns.map .int))) : ∃ k, f_law [sc] h = some (.rt (.bl true) k) := by
  obtain ⟨b, h1, h2, x, y, ec, eb, g2, hx, hy, hy2, k2, n2, l2⟩ := urn_at (c0 := 176034) (by decide) (by decide) ns hl hb h hh hk sc hs
  obtain ⟨t, x', z', h3, et, t0, t1, _⟩ := take_ok (low := 3) g2 (by omega) (by rw [k2]; exact List.not_mem_nil) hx hy hy2 (by decide) (by decide) (by decide) (by decide)
  have ec : f__law_cells [sc, .int 1] h = some (.rt (.box b) h1) := ec
  have eb : f__law_box [.box b, .int 0] h1 = some (.rt (.box h1.n) h2) := eb
  have et : f__law_take [.box h1.n, .int 3] h2 = some (.rt (.int t) h3) := et
  refine ⟨h3, runDef_rt ?_⟩
  show m_law [some sc, none] h = _
  unfold m_law
  rw [mSeq_nx (guard_ok tru_a), mSeq_nx (mSet_ok (mCall_ok (mCons_ok (mCall_ok (mCons_ok (mCall_ok (mCons_ok (mVar_ok (d := sc) rfl (scr_nlm hs)) (mCons_ok mCon_ok mNil_ok)) ec) (mCons_ok mCon_ok mNil_ok)) eb) (mCons_ok mCon_ok mNil_ok)) et))]
  have key : ∀ u : Int, t = u → (∀ x0, rtT (m_law_c [x0, some (.int u)] h0) = true) → clS m_law_c [some sc, some (.int t)] h3 = some (.rt (.bl true) h3) := fun u e r => by
    subst e
    refine cls_true ?_
    show rtT (m_law_c [flatO (some sc), some (.int t)] h0) = true
    exact r _
  have ht : t = 0 ∨ t = 1 ∨ t = 2 := by omega
  show clS m_law_c [some sc, some (.int t)] h3 = _
  rcases ht with q | q | q
  · exact key 0 q rt_0
  · exact key 1 q rt_1
  · exact key 2 q rt_2
theorem law_true (ns : List Int) (hl : ns.length ≤ 63) (hb : ∀ z ∈ ns, Builtin.Int.intBits z ≤ 1048576) : (∃ h, f_law [.scr (ns.map D.int)] h0 = some (.rt (.bl true) h)) ∧ ∃ h, f_law [.box 0] (hL ns) = some (.rt (.bl true) h) := law_both law_at ns hl hb

end
section
variable {P : Program} {w : World} {K : PySem.W.Frag} {h : Heap} {mg : Str → Option Value}
theorem ini_BadLine (c : Hf.Says Hd.fa Hd.fn Hd.ts Hd.tf Hd.ex w h K) : ∃ (oc : Value) (od : Option Addr) (doc pm : Value) (an : Option Addr) (cdv ct : Value) (osl : Array (Option Value)) (p1 p2 q1 q2 q3 q4 : Pos),
    K.lookup (He.ma K (He.ga K (PySem.Str.ofString "BadLine")) (PySem.Str.ofString "__init__")) = some ⟨oc, od, .func (PySem.W.fnOf (PySem.Str.ofString "__init__") (PySem.Str.ofString "BadLine.__init__") (ExLine.iA p1 p2) (ExLine.iB q1 q2 q3 q4) ExLine.iS .none .none doc pm an cdv ct), osl⟩ ∧ PySem.W.codeIn K cdv (PySem.Str.ofString "BadLine.__init__") = true := by
  obtain ⟨oc, od, doc, pm, an, cdv, ct, osl, lk, cd⟩ := c.meth0 56 (p := ((PySem.Str.ofString "BadLine"), some (PySem.Str.ofString "__init__"))) (x := (PySem.Str.ofString "__init__")) (q := (PySem.Str.ofString "BadLine.__init__")) (a := defArgs (Hd.mth 1 0)) (b := defBody (Hd.mth 1 0)) (s := defScope (Hd.mth 1 0)) rfl (c.yes 11 (b := fun K => Hf.kwN K ((PySem.Str.ofString "BadLine"), some (PySem.Str.ofString "__init__"))) rfl)
  exact ⟨oc, od, doc, pm, an, cdv, ct, osl, _, _, _, _, _, _, lk, cd⟩
theorem top_fx [Tbs] (X : K.In h) (G : h.Ns mainGlobals mg) (c : Hf.Says Hd.fa Hd.fn Hd.ts Hd.tf Hd.ex w h K) : Txt P w K mg (He.ga K (PySem.Str.ofString "is_number")) (He.ga K (PySem.Str.ofString "are_numbers_from")) (He.ga K (PySem.Str.ofString "are_places")) (He.ga K (PySem.Str.ofString "is_set_of_places")) (He.ga K (PySem.Str.ofString "are_steps")) (He.ga K (PySem.Str.ofString "is_machine")) (He.ga K (PySem.Str.ofString "letters_in")) (He.ga K (PySem.Str.ofString "is_event")) (He.ga K (PySem.Str.ofString "is_run")) (He.ga K (PySem.Str.ofString "are_rows")) (He.ga K (PySem.Str.ofString "is_step")) (He.ga K (PySem.Str.ofString "are_puts")) (He.ga K (PySem.Str.ofString "are_takes")) (He.ga K (PySem.Str.ofString "is_keeper")) (He.ga K (PySem.Str.ofString "letters_of")) (He.ga K (PySem.Str.ofString "marks_of")) (He.ga K (PySem.Str.ofString "greatest_mark")) (He.ga K (PySem.Str.ofString "is_pair")) (He.ga K (PySem.Str.ofString "lines_of")) (He.ga K (PySem.Str.ofString "is_figures")) (He.ma K (He.ga K (PySem.Str.ofString "Reader")) (PySem.Str.ofString "__init__")) (He.ma K (He.ga K (PySem.Str.ofString "Reader")) (PySem.Str.ofString "is_done")) (He.ma K (He.ga K (PySem.Str.ofString "Reader")) (PySem.Str.ofString "comes")) (He.ma K (He.ga K (PySem.Str.ofString "Reader")) (PySem.Str.ofString "check")) (He.ma K (He.ga K (PySem.Str.ofString "Reader")) (PySem.Str.ofString "behind")) (He.ma K (He.ga K (PySem.Str.ofString "Reader")) (PySem.Str.ofString "counted")) (He.ma K (He.ga K (PySem.Str.ofString "Reader")) (PySem.Str.ofString "counted_just")) (He.ma K (He.ga K (PySem.Str.ofString "Reader")) (PySem.Str.ofString "end")) (He.ga K (PySem.Str.ofString "line_with")) (He.ga K (PySem.Str.ofString "machine_text")) (He.ga K (PySem.Str.ofString "run_text")) (He.ga K (PySem.Str.ofString "keeper_text")) (He.ga K (PySem.Str.ofString "pair_text")) (He.ga K (PySem.Str.ofString "machine_read")) (He.ga K (PySem.Str.ofString "event_read")) (He.ga K (PySem.Str.ofString "run_read")) (He.ga K (PySem.Str.ofString "keeper_lines_read")) (He.ga K (PySem.Str.ofString "keeper_read")) (He.ga K (PySem.Str.ofString "pair_read")) (He.ga K (PySem.Str.ofString "_law_box")) (He.ga K (PySem.Str.ofString "_law_take")) (He.ga K (PySem.Str.ofString "_law_cells")) (He.ga K (PySem.Str.ofString "_law_lists")) (He.ga K (PySem.Str.ofString "_law_same")) (He.ga K (PySem.Str.ofString "_law_even")) (He.ga K (PySem.Str.ofString "_law_flip")) (He.ga K (PySem.Str.ofString "_law_lead")) (He.ga K (PySem.Str.ofString "_law_hear")) (He.ga K (PySem.Str.ofString "_law_heard")) (He.ga K (PySem.Str.ofString "_law_flip_text")) (He.ga K (PySem.Str.ofString "_law_two_text")) (He.ga K (PySem.Str.ofString "_law_always_right")) (He.ga K (PySem.Str.ofString "_law_told_right")) (He.ga K (PySem.Str.ofString "_law_lines_right")) (He.ga K (PySem.Str.ofString "_law_unfit_right")) (He.ga K (PySem.Str.ofString "law")) (He.ga K (PySem.Str.ofString "BadLine")) (He.ga K (PySem.Str.ofString "Unfit")) (He.ga K (PySem.Str.ofString "Reader")) where
  g_is_number := He.glo_ok X G (c.fact 0 (f := .glo (PySem.Str.ofString "is_number")) rfl)
  k_is_number := c.keep1 0 (st := Hd.tp 4) (x := (PySem.Str.ofString "is_number")) rfl
  g_are_numbers_from := He.glo_ok X G (c.fact 1 (f := .glo (PySem.Str.ofString "are_numbers_from")) rfl)
  k_are_numbers_from := c.keep1 1 (st := Hd.tp 5) (x := (PySem.Str.ofString "are_numbers_from")) rfl
  g_are_places := He.glo_ok X G (c.fact 2 (f := .glo (PySem.Str.ofString "are_places")) rfl)
  k_are_places := c.keep1 2 (st := Hd.tp 6) (x := (PySem.Str.ofString "are_places")) rfl
  g_is_set_of_places := He.glo_ok X G (c.fact 3 (f := .glo (PySem.Str.ofString "is_set_of_places")) rfl)
  k_is_set_of_places := c.keep1 3 (st := Hd.tp 7) (x := (PySem.Str.ofString "is_set_of_places")) rfl
  g_are_steps := He.glo_ok X G (c.fact 4 (f := .glo (PySem.Str.ofString "are_steps")) rfl)
  k_are_steps := c.keep1 4 (st := Hd.tp 10) (x := (PySem.Str.ofString "are_steps")) rfl
  g_is_machine := He.glo_ok X G (c.fact 5 (f := .glo (PySem.Str.ofString "is_machine")) rfl)
  k_is_machine := c.keep1 5 (st := Hd.tp 9) (x := (PySem.Str.ofString "is_machine")) rfl
  g_letters_in := He.glo_ok X G (c.fact 6 (f := .glo (PySem.Str.ofString "letters_in")) rfl)
  k_letters_in := c.keep1 6 (st := Hd.tp 11) (x := (PySem.Str.ofString "letters_in")) rfl
  g_is_event := He.glo_ok X G (c.fact 7 (f := .glo (PySem.Str.ofString "is_event")) rfl)
  k_is_event := c.keep1 7 (st := Hd.tp 14) (x := (PySem.Str.ofString "is_event")) rfl
  g_is_run := He.glo_ok X G (c.fact 8 (f := .glo (PySem.Str.ofString "is_run")) rfl)
  k_is_run := c.keep1 8 (st := Hd.tp 13) (x := (PySem.Str.ofString "is_run")) rfl
  g_are_rows := He.glo_ok X G (c.fact 9 (f := .glo (PySem.Str.ofString "are_rows")) rfl)
  k_are_rows := c.keep1 9 (st := Hd.tp 17) (x := (PySem.Str.ofString "are_rows")) rfl
  g_is_step := He.glo_ok X G (c.fact 10 (f := .glo (PySem.Str.ofString "is_step")) rfl)
  k_is_step := c.keep1 10 (st := Hd.tp 19) (x := (PySem.Str.ofString "is_step")) rfl
  g_are_puts := He.glo_ok X G (c.fact 11 (f := .glo (PySem.Str.ofString "are_puts")) rfl)
  k_are_puts := c.keep1 11 (st := Hd.tp 18) (x := (PySem.Str.ofString "are_puts")) rfl
  g_are_takes := He.glo_ok X G (c.fact 12 (f := .glo (PySem.Str.ofString "are_takes")) rfl)
  k_are_takes := c.keep1 12 (st := Hd.tp 20) (x := (PySem.Str.ofString "are_takes")) rfl
  g_is_keeper := He.glo_ok X G (c.fact 13 (f := .glo (PySem.Str.ofString "is_keeper")) rfl)
  k_is_keeper := c.keep1 13 (st := Hd.tp 16) (x := (PySem.Str.ofString "is_keeper")) rfl
  g_letters_of := He.glo_ok X G (c.fact 14 (f := .glo (PySem.Str.ofString "letters_of")) rfl)
  k_letters_of := c.keep1 14 (st := Hd.tp 21) (x := (PySem.Str.ofString "letters_of")) rfl
  g_marks_of := He.glo_ok X G (c.fact 15 (f := .glo (PySem.Str.ofString "marks_of")) rfl)
  k_marks_of := c.keep1 15 (st := Hd.tp 22) (x := (PySem.Str.ofString "marks_of")) rfl
  g_greatest_mark := He.glo_ok X G (c.fact 16 (f := .glo (PySem.Str.ofString "greatest_mark")) rfl)
  k_greatest_mark := c.keep1 16 (st := Hd.tp 24) (x := (PySem.Str.ofString "greatest_mark")) rfl
  g_is_pair := He.glo_ok X G (c.fact 17 (f := .glo (PySem.Str.ofString "is_pair")) rfl)
  k_is_pair := c.keep1 17 (st := Hd.tp 23) (x := (PySem.Str.ofString "is_pair")) rfl
  g_lines_of := He.glo_ok X G (c.fact 18 (f := .glo (PySem.Str.ofString "lines_of")) rfl)
  k_lines_of := c.keep1 18 (st := Hd.tp 27) (x := (PySem.Str.ofString "lines_of")) rfl
  g_is_figures := He.glo_ok X G (c.fact 19 (f := .glo (PySem.Str.ofString "is_figures")) rfl)
  k_is_figures := c.keep1 19 (st := Hd.tp 28) (x := (PySem.Str.ofString "is_figures")) rfl
  gm_Reader___init__ := He.meth_ok (c.fact 20 (f := .meth (PySem.Str.ofString "Reader") (PySem.Str.ofString "__init__")) rfl)
  gm_Reader_is_done := He.meth_ok (c.fact 21 (f := .meth (PySem.Str.ofString "Reader") (PySem.Str.ofString "is_done")) rfl)
  gm_Reader_comes := He.meth_ok (c.fact 22 (f := .meth (PySem.Str.ofString "Reader") (PySem.Str.ofString "comes")) rfl)
  gm_Reader_check := He.meth_ok (c.fact 23 (f := .meth (PySem.Str.ofString "Reader") (PySem.Str.ofString "check")) rfl)
  gm_Reader_behind := He.meth_ok (c.fact 24 (f := .meth (PySem.Str.ofString "Reader") (PySem.Str.ofString "behind")) rfl)
  gm_Reader_counted := He.meth_ok (c.fact 25 (f := .meth (PySem.Str.ofString "Reader") (PySem.Str.ofString "counted")) rfl)
  gm_Reader_counted_just := He.meth_ok (c.fact 26 (f := .meth (PySem.Str.ofString "Reader") (PySem.Str.ofString "counted_just")) rfl)
  gm_Reader_end := He.meth_ok (c.fact 27 (f := .meth (PySem.Str.ofString "Reader") (PySem.Str.ofString "end")) rfl)
  g_line_with := He.glo_ok X G (c.fact 28 (f := .glo (PySem.Str.ofString "line_with")) rfl)
  k_line_with := c.keep1 28 (st := Hd.tp 30) (x := (PySem.Str.ofString "line_with")) rfl
  g_machine_text := He.glo_ok X G (c.fact 29 (f := .glo (PySem.Str.ofString "machine_text")) rfl)
  k_machine_text := c.keep1 29 (st := Hd.tp 31) (x := (PySem.Str.ofString "machine_text")) rfl
  g_run_text := He.glo_ok X G (c.fact 30 (f := .glo (PySem.Str.ofString "run_text")) rfl)
  k_run_text := c.keep1 30 (st := Hd.tp 32) (x := (PySem.Str.ofString "run_text")) rfl
  g_keeper_text := He.glo_ok X G (c.fact 31 (f := .glo (PySem.Str.ofString "keeper_text")) rfl)
  k_keeper_text := c.keep1 31 (st := Hd.tp 33) (x := (PySem.Str.ofString "keeper_text")) rfl
  g_pair_text := He.glo_ok X G (c.fact 32 (f := .glo (PySem.Str.ofString "pair_text")) rfl)
  k_pair_text := c.keep1 32 (st := Hd.tp 34) (x := (PySem.Str.ofString "pair_text")) rfl
  g_machine_read := He.glo_ok X G (c.fact 33 (f := .glo (PySem.Str.ofString "machine_read")) rfl)
  k_machine_read := c.keep1 33 (st := Hd.tp 35) (x := (PySem.Str.ofString "machine_read")) rfl
  g_event_read := He.glo_ok X G (c.fact 34 (f := .glo (PySem.Str.ofString "event_read")) rfl)
  k_event_read := c.keep1 34 (st := Hd.tp 36) (x := (PySem.Str.ofString "event_read")) rfl
  g_run_read := He.glo_ok X G (c.fact 35 (f := .glo (PySem.Str.ofString "run_read")) rfl)
  k_run_read := c.keep1 35 (st := Hd.tp 37) (x := (PySem.Str.ofString "run_read")) rfl
  g_keeper_lines_read := He.glo_ok X G (c.fact 36 (f := .glo (PySem.Str.ofString "keeper_lines_read")) rfl)
  k_keeper_lines_read := c.keep1 36 (st := Hd.tp 38) (x := (PySem.Str.ofString "keeper_lines_read")) rfl
  g_keeper_read := He.glo_ok X G (c.fact 37 (f := .glo (PySem.Str.ofString "keeper_read")) rfl)
  k_keeper_read := c.keep1 37 (st := Hd.tp 39) (x := (PySem.Str.ofString "keeper_read")) rfl
  g_pair_read := He.glo_ok X G (c.fact 38 (f := .glo (PySem.Str.ofString "pair_read")) rfl)
  k_pair_read := c.keep1 38 (st := Hd.tp 40) (x := (PySem.Str.ofString "pair_read")) rfl
  g__law_box := He.glo_ok X G (c.fact 39 (f := .glo (PySem.Str.ofString "_law_box")) rfl)
  k__law_box := c.keep1 39 (st := Hd.tp 42) (x := (PySem.Str.ofString "_law_box")) rfl
  g__law_take := He.glo_ok X G (c.fact 40 (f := .glo (PySem.Str.ofString "_law_take")) rfl)
  k__law_take := c.keep1 40 (st := Hd.tp 43) (x := (PySem.Str.ofString "_law_take")) rfl
  g__law_cells := He.glo_ok X G (c.fact 41 (f := .glo (PySem.Str.ofString "_law_cells")) rfl)
  k__law_cells := c.keep1 41 (st := Hd.tp 44) (x := (PySem.Str.ofString "_law_cells")) rfl
  g__law_lists := He.glo_ok X G (c.fact 42 (f := .glo (PySem.Str.ofString "_law_lists")) rfl)
  k__law_lists := c.keep1 42 (st := Hd.tp 45) (x := (PySem.Str.ofString "_law_lists")) rfl
  g__law_same := He.glo_ok X G (c.fact 43 (f := .glo (PySem.Str.ofString "_law_same")) rfl)
  k__law_same := c.keep1 43 (st := Hd.tp 46) (x := (PySem.Str.ofString "_law_same")) rfl
  g__law_even := He.glo_ok X G (c.fact 44 (f := .glo (PySem.Str.ofString "_law_even")) rfl)
  k__law_even := c.keep1 44 (st := Hd.tp 47) (x := (PySem.Str.ofString "_law_even")) rfl
  g__law_flip := He.glo_ok X G (c.fact 45 (f := .glo (PySem.Str.ofString "_law_flip")) rfl)
  k__law_flip := c.keep1 45 (st := Hd.tp 48) (x := (PySem.Str.ofString "_law_flip")) rfl
  g__law_lead := He.glo_ok X G (c.fact 46 (f := .glo (PySem.Str.ofString "_law_lead")) rfl)
  k__law_lead := c.keep1 46 (st := Hd.tp 49) (x := (PySem.Str.ofString "_law_lead")) rfl
  g__law_hear := He.glo_ok X G (c.fact 47 (f := .glo (PySem.Str.ofString "_law_hear")) rfl)
  k__law_hear := c.keep1 47 (st := Hd.tp 50) (x := (PySem.Str.ofString "_law_hear")) rfl
  g__law_heard := He.glo_ok X G (c.fact 48 (f := .glo (PySem.Str.ofString "_law_heard")) rfl)
  k__law_heard := c.keep1 48 (st := Hd.tp 51) (x := (PySem.Str.ofString "_law_heard")) rfl
  g__law_flip_text := He.glo_ok X G (c.fact 49 (f := .glo (PySem.Str.ofString "_law_flip_text")) rfl)
  k__law_flip_text := c.keep1 49 (st := Hd.tp 52) (x := (PySem.Str.ofString "_law_flip_text")) rfl
  g__law_two_text := He.glo_ok X G (c.fact 50 (f := .glo (PySem.Str.ofString "_law_two_text")) rfl)
  k__law_two_text := c.keep1 50 (st := Hd.tp 53) (x := (PySem.Str.ofString "_law_two_text")) rfl
  g__law_always_right := He.glo_ok X G (c.fact 51 (f := .glo (PySem.Str.ofString "_law_always_right")) rfl)
  k__law_always_right := c.keep1 51 (st := Hd.tp 54) (x := (PySem.Str.ofString "_law_always_right")) rfl
  g__law_told_right := He.glo_ok X G (c.fact 52 (f := .glo (PySem.Str.ofString "_law_told_right")) rfl)
  k__law_told_right := c.keep1 52 (st := Hd.tp 55) (x := (PySem.Str.ofString "_law_told_right")) rfl
  g__law_lines_right := He.glo_ok X G (c.fact 53 (f := .glo (PySem.Str.ofString "_law_lines_right")) rfl)
  k__law_lines_right := c.keep1 53 (st := Hd.tp 56) (x := (PySem.Str.ofString "_law_lines_right")) rfl
  g__law_unfit_right := He.glo_ok X G (c.fact 54 (f := .glo (PySem.Str.ofString "_law_unfit_right")) rfl)
  k__law_unfit_right := c.keep1 54 (st := Hd.tp 57) (x := (PySem.Str.ofString "_law_unfit_right")) rfl
  g_law := He.glo_ok X G (c.fact 55 (f := .glo (PySem.Str.ofString "law")) rfl)
  k_law := c.keep1 55 (st := Hd.tp 58) (x := (PySem.Str.ofString "law")) rfl
  g_Reader := He.glo_ok X G (c.fact 56 (f := .glo (PySem.Str.ofString "Reader")) rfl)
  cl_Reader := He.cls_ok (c.fact 57 (f := .cls (PySem.Str.ofString "Reader")) rfl)
  mki_Reader := He.mkr_ok (c.fact 58 (f := .mkr (PySem.Str.ofString "Reader")) rfl)
  af_lines := (atK_cons (He.glo_ok X G (c.fact 56 (f := .glo (PySem.Str.ofString "Reader")) rfl)) (He.cls_ok (c.fact 57 (f := .cls (PySem.Str.ofString "Reader")) rfl)) (He.noat_ok (c.fact 59 (f := .noat (PySem.Str.ofString "Reader") (PySem.Str.ofString "lines")) rfl)) atK_nil)
  af_place := (atK_cons (He.glo_ok X G (c.fact 56 (f := .glo (PySem.Str.ofString "Reader")) rfl)) (He.cls_ok (c.fact 57 (f := .cls (PySem.Str.ofString "Reader")) rfl)) (He.noat_ok (c.fact 60 (f := .noat (PySem.Str.ofString "Reader") (PySem.Str.ofString "place")) rfl)) atK_nil)
  n_ValueError := He.free_ok X G (c.fact 61 (f := .free (PySem.Str.ofString "ValueError")) rfl)
  n_abs := He.free_ok X G (c.fact 62 (f := .free (PySem.Str.ofString "abs")) rfl)
  n_all := He.free_ok X G (c.fact 63 (f := .free (PySem.Str.ofString "all")) rfl)
  n_bool := He.free_ok X G (c.fact 64 (f := .free (PySem.Str.ofString "bool")) rfl)
  n_enumerate := He.free_ok X G (c.fact 65 (f := .free (PySem.Str.ofString "enumerate")) rfl)
  n_int := He.free_ok X G (c.fact 66 (f := .free (PySem.Str.ofString "int")) rfl)
  n_isinstance := He.free_ok X G (c.fact 67 (f := .free (PySem.Str.ofString "isinstance")) rfl)
  n_len := He.free_ok X G (c.fact 68 (f := .free (PySem.Str.ofString "len")) rfl)
  n_list := He.free_ok X G (c.fact 69 (f := .free (PySem.Str.ofString "list")) rfl)
  n_max := He.free_ok X G (c.fact 70 (f := .free (PySem.Str.ofString "max")) rfl)
  n_range := He.free_ok X G (c.fact 71 (f := .free (PySem.Str.ofString "range")) rfl)
  n_str := He.free_ok X G (c.fact 72 (f := .free (PySem.Str.ofString "str")) rfl)
  n_tuple := He.free_ok X G (c.fact 73 (f := .free (PySem.Str.ofString "tuple")) rfl)
  n_zip := He.free_ok X G (c.fact 74 (f := .free (PySem.Str.ofString "zip")) rfl)
  g_BadLine := He.glo_ok X G (c.fact 75 (f := .glo (PySem.Str.ofString "BadLine")) rfl)
  k_BadLine := He.keep_ok (c.fact 76 (f := .keep (PySem.Str.ofString "BadLine")) rfl)
  b_BadLine := (c.dec 0 (P := fun K => PySem.W.subIn K (.ref (He.ga K (PySem.Str.ofString "BadLine"))) (.type "BaseException") = some true) rfl)
  t_BadLine := (c.dec 1 (P := fun K => PySem.W.typeIn K (.ref (He.ga K (PySem.Str.ofString "BadLine"))) = some (.type "type")) rfl)
  m_BadLine := ExLine.mkr (fI := He.ma K (He.ga K (PySem.Str.ofString "BadLine")) (PySem.Str.ofString "__init__")) (qn := (PySem.Str.ofString "BadLine.__init__")) ⟨Hf.xcB_ok (c.yes 2 (b := fun K => Hf.xcB K (He.ga K (PySem.Str.ofString "BadLine")) [.type "ValueError", .type "Exception", .type "BaseException", .type "object"] "ValueError.__new__") rfl), (c.yes 3 (b := fun K => PySem.W.excOver K (He.ga K (PySem.Str.ofString "BadLine")) [.type "ValueError", .type "Exception", .type "BaseException", .type "object"]) rfl), (c.dec 4 (P := fun K => PySem.W.findIn K (.ref (He.ga K (PySem.Str.ofString "BadLine"))) (PySem.Str.ofString "__setattr__") = some (some (.builtin "object.__setattr__"))) rfl), (c.dec 5 (P := fun K => PySem.W.findIn K (.ref (He.ga K (PySem.Str.ofString "BadLine"))) (PySem.Str.ofString "line") = some none) rfl), (c.dec 6 (P := fun K => PySem.W.findIn K (.ref (He.ga K (PySem.Str.ofString "BadLine"))) (PySem.Str.ofString "__init__") = some (some (.ref (He.ma K (He.ga K (PySem.Str.ofString "BadLine")) (PySem.Str.ofString "__init__"))))) rfl), (c.dec 7 (P := fun K => PySem.W.typeIn K (.ref (He.ma K (He.ga K (PySem.Str.ofString "BadLine")) (PySem.Str.ofString "__init__"))) = some (.type "function")) rfl), ini_BadLine c⟩
  at_BadLine := ⟨(c.dec 8 (P := fun K => PySem.W.findIn K (.ref (He.ga K (PySem.Str.ofString "BadLine"))) (PySem.Str.ofString "__getattribute__") = some (some (.builtin "BaseException.__getattribute__"))) rfl), (c.dec 9 (P := fun K => PySem.W.findIn K (.ref (He.ga K (PySem.Str.ofString "BadLine"))) (PySem.Str.ofString "__getattr__") = some none) rfl), (c.dec 0 (P := fun K => PySem.W.subIn K (.ref (He.ga K (PySem.Str.ofString "BadLine"))) (.type "BaseException") = some true) rfl), (c.yes 10 (b := fun K => PySem.W.hasDictIn K (He.ga K (PySem.Str.ofString "BadLine"))) rfl), (c.dec 5 (P := fun K => PySem.W.findIn K (.ref (He.ga K (PySem.Str.ofString "BadLine"))) (PySem.Str.ofString "line") = some none) rfl)⟩
  g_Unfit := He.glo_ok X G (c.fact 77 (f := .glo (PySem.Str.ofString "Unfit")) rfl)
  k_Unfit := He.keep_ok (c.fact 78 (f := .keep (PySem.Str.ofString "Unfit")) rfl)
  b_Unfit := (c.dec 12 (P := fun K => PySem.W.subIn K (.ref (He.ga K (PySem.Str.ofString "Unfit"))) (.type "BaseException") = some true) rfl)
  t_Unfit := (c.dec 13 (P := fun K => PySem.W.typeIn K (.ref (He.ga K (PySem.Str.ofString "Unfit"))) = some (.type "type")) rfl)
  x_Unfit := (c.yes 14 (b := fun K => PySem.W.excIn K (He.ga K (PySem.Str.ofString "Unfit")) [.type "ValueError", .type "Exception", .type "BaseException", .type "object"] "ValueError.__new__") rfl)
  c_ANSWERS := dctB_of (He.glo_ok X G (c.fact 79 (f := .glo (PySem.Str.ofString "ANSWERS")) rfl)) (c.t.tab 0 rfl) (c.yes 15 (b := fun K => Hf.dctBB K (He.ga K (PySem.Str.ofString "ANSWERS")) [((PySem.Str.ofString "yes"), true), ((PySem.Str.ofString "no"), false)]) rfl)
  ie_BadLine := ⟨(c.dec 8 (P := fun K => PySem.W.findIn K (.ref (He.ga K (PySem.Str.ofString "BadLine"))) (PySem.Str.ofString "__getattribute__") = some (some (.builtin "BaseException.__getattribute__"))) rfl), (c.dec 9 (P := fun K => PySem.W.findIn K (.ref (He.ga K (PySem.Str.ofString "BadLine"))) (PySem.Str.ofString "__getattr__") = some none) rfl), (c.dec 0 (P := fun K => PySem.W.subIn K (.ref (He.ga K (PySem.Str.ofString "BadLine"))) (.type "BaseException") = some true) rfl), (c.yes 10 (b := fun K => PySem.W.hasDictIn K (He.ga K (PySem.Str.ofString "BadLine"))) rfl), (c.dec 18 (P := fun K => PySem.W.findIn K (.ref (He.ga K (PySem.Str.ofString "BadLine"))) (PySem.Str.ofString "__class__") = some (some (.builtin "object.__class__"))) rfl), (c.dec 16 (P := fun K => PySem.W.specialIn K (.builtin "object.__class__") (PySem.Str.ofString "__get__") = some (some (.builtin "getset_descriptor.__get__"))) rfl), (c.dec 17 (P := fun K => PySem.W.takesIn K (.builtin "object.__class__") = some true) rfl), (c.dec 19 (P := fun K => PySem.W.mroIn K (He.ga K (PySem.Str.ofString "BadLine")) (.type "object") = some true) rfl)⟩
  ie_Unfit := ⟨(c.dec 20 (P := fun K => PySem.W.findIn K (.ref (He.ga K (PySem.Str.ofString "Unfit"))) (PySem.Str.ofString "__getattribute__") = some (some (.builtin "BaseException.__getattribute__"))) rfl), (c.dec 21 (P := fun K => PySem.W.findIn K (.ref (He.ga K (PySem.Str.ofString "Unfit"))) (PySem.Str.ofString "__getattr__") = some none) rfl), (c.dec 12 (P := fun K => PySem.W.subIn K (.ref (He.ga K (PySem.Str.ofString "Unfit"))) (.type "BaseException") = some true) rfl), (c.yes 22 (b := fun K => PySem.W.hasDictIn K (He.ga K (PySem.Str.ofString "Unfit"))) rfl), (c.dec 23 (P := fun K => PySem.W.findIn K (.ref (He.ga K (PySem.Str.ofString "Unfit"))) (PySem.Str.ofString "__class__") = some (some (.builtin "object.__class__"))) rfl), (c.dec 16 (P := fun K => PySem.W.specialIn K (.builtin "object.__class__") (PySem.Str.ofString "__get__") = some (some (.builtin "getset_descriptor.__get__"))) rfl), (c.dec 17 (P := fun K => PySem.W.takesIn K (.builtin "object.__class__") = some true) rfl), (c.dec 24 (P := fun K => PySem.W.mroIn K (He.ga K (PySem.Str.ofString "Unfit")) (.type "object") = some true) rfl)⟩
  iv_BadLine_ValueError := (c.dec 25 (P := fun K => PySem.W.kitOne K (.ref (He.ga K (PySem.Str.ofString "BadLine"))) (.type "ValueError") = some true) rfl)
  iv_Unfit_ValueError := (c.dec 26 (P := fun K => PySem.W.kitOne K (.ref (He.ga K (PySem.Str.ofString "Unfit"))) (.type "ValueError") = some true) rfl)
  ek := by
    intro c0 hc k hk C e
    have g_BadLine := He.glo_ok X G (c.fact 75 (f := .glo (PySem.Str.ofString "BadLine")) rfl)
    have g_Unfit := He.glo_ok X G (c.fact 77 (f := .glo (PySem.Str.ofString "Unfit")) rfl)
    simp only [List.mem_cons, List.not_mem_nil, or_false] at hc hk
    rcases hc with rfl | rfl <;> rcases hk with rfl | rfl
    · rw [g_BadLine] at e; cases e; rw [g_BadLine]; exact PySem.W.exm_ref (c.dec 0 (P := fun K => PySem.W.subIn K (.ref (He.ga K (PySem.Str.ofString "BadLine"))) (.type "BaseException") = some true) rfl) (c.yes 10 (b := fun K => PySem.W.hasDictIn K (He.ga K (PySem.Str.ofString "BadLine"))) rfl) (c.dec 1 (P := fun K => PySem.W.typeIn K (.ref (He.ga K (PySem.Str.ofString "BadLine"))) = some (.type "type")) rfl) (c.dec 27 (P := fun K => PySem.W.subIn K (.ref (He.ga K (PySem.Str.ofString "BadLine"))) (.ref (He.ga K (PySem.Str.ofString "BadLine"))) = some true) rfl)
    · rw [g_BadLine] at e; cases e; rw [g_Unfit]; exact PySem.W.exm_ref (c.dec 12 (P := fun K => PySem.W.subIn K (.ref (He.ga K (PySem.Str.ofString "Unfit"))) (.type "BaseException") = some true) rfl) (c.yes 22 (b := fun K => PySem.W.hasDictIn K (He.ga K (PySem.Str.ofString "Unfit"))) rfl) (c.dec 13 (P := fun K => PySem.W.typeIn K (.ref (He.ga K (PySem.Str.ofString "Unfit"))) = some (.type "type")) rfl) (c.dec 28 (P := fun K => PySem.W.subIn K (.ref (He.ga K (PySem.Str.ofString "BadLine"))) (.ref (He.ga K (PySem.Str.ofString "Unfit"))) = some false) rfl)
    · rw [g_Unfit] at e; cases e; rw [g_BadLine]; exact PySem.W.exm_ref (c.dec 0 (P := fun K => PySem.W.subIn K (.ref (He.ga K (PySem.Str.ofString "BadLine"))) (.type "BaseException") = some true) rfl) (c.yes 10 (b := fun K => PySem.W.hasDictIn K (He.ga K (PySem.Str.ofString "BadLine"))) rfl) (c.dec 1 (P := fun K => PySem.W.typeIn K (.ref (He.ga K (PySem.Str.ofString "BadLine"))) = some (.type "type")) rfl) (c.dec 29 (P := fun K => PySem.W.subIn K (.ref (He.ga K (PySem.Str.ofString "Unfit"))) (.ref (He.ga K (PySem.Str.ofString "BadLine"))) = some false) rfl)
    · rw [g_Unfit] at e; cases e; rw [g_Unfit]; exact PySem.W.exm_ref (c.dec 12 (P := fun K => PySem.W.subIn K (.ref (He.ga K (PySem.Str.ofString "Unfit"))) (.type "BaseException") = some true) rfl) (c.yes 22 (b := fun K => PySem.W.hasDictIn K (He.ga K (PySem.Str.ofString "Unfit"))) rfl) (c.dec 13 (P := fun K => PySem.W.typeIn K (.ref (He.ga K (PySem.Str.ofString "Unfit"))) = some (.type "type")) rfl) (c.dec 30 (P := fun K => PySem.W.subIn K (.ref (He.ga K (PySem.Str.ofString "Unfit"))) (.ref (He.ga K (PySem.Str.ofString "Unfit"))) = some true) rfl)
end
section
theorem all_fx {l : PySem.W.OpenLaw} {w : World} {K : PySem.W.Frag} {h : Heap} {mg : Str → Option Value} {fa : Addr} (X : K.In h) (G : h.Ns mainGlobals mg) (c : Hf.Says Hd.fa Hd.fn Hd.ts Hd.tf Hd.ex w h K) (hfa : mg (PySem.Str.ofString "law") = some (.ref fa))
    : LamX.LawAtS l w K (L2.CX l.prog w) 43 63 "script" mg fa h := by
  letI : Tbs := ⟨[], none, [], []⟩
  have hz : Tbs.base = [] := rfl
  have T := top_fx (P := l.prog) (w := w) X G c
  have ef := T.g_law
  rw [hfa] at ef
  cases ef
  obtain ⟨fd_is_number, F_is_number, C_is_number⟩ := c.def1 0 (st := st_is_number) (x := (PySem.Str.ofString "is_number")) rfl
  obtain ⟨fd_are_numbers_from, F_are_numbers_from, C_are_numbers_from⟩ := c.def1 1 (st := st_are_numbers_from) (x := (PySem.Str.ofString "are_numbers_from")) rfl
  obtain ⟨fd_are_places, F_are_places, C_are_places⟩ := c.def1 2 (st := st_are_places) (x := (PySem.Str.ofString "are_places")) rfl
  obtain ⟨fd_is_set_of_places, F_is_set_of_places, C_is_set_of_places⟩ := c.def1 3 (st := st_is_set_of_places) (x := (PySem.Str.ofString "is_set_of_places")) rfl
  obtain ⟨fd_are_steps, F_are_steps, C_are_steps⟩ := c.def1 4 (st := st_are_steps) (x := (PySem.Str.ofString "are_steps")) rfl
  obtain ⟨fd_is_machine, F_is_machine, C_is_machine⟩ := c.def1 5 (st := st_is_machine) (x := (PySem.Str.ofString "is_machine")) rfl
  obtain ⟨fd_letters_in, F_letters_in, C_letters_in⟩ := c.def1 6 (st := st_letters_in) (x := (PySem.Str.ofString "letters_in")) rfl
  obtain ⟨fd_is_event, F_is_event, C_is_event⟩ := c.def1 7 (st := st_is_event) (x := (PySem.Str.ofString "is_event")) rfl
  obtain ⟨fd_is_run, F_is_run, C_is_run⟩ := c.def1 8 (st := st_is_run) (x := (PySem.Str.ofString "is_run")) rfl
  obtain ⟨fd_are_rows, F_are_rows, C_are_rows⟩ := c.def1 9 (st := st_are_rows) (x := (PySem.Str.ofString "are_rows")) rfl
  obtain ⟨fd_is_step, F_is_step, C_is_step⟩ := c.def1 10 (st := st_is_step) (x := (PySem.Str.ofString "is_step")) rfl
  obtain ⟨fd_are_puts, F_are_puts, C_are_puts⟩ := c.def1 11 (st := st_are_puts) (x := (PySem.Str.ofString "are_puts")) rfl
  obtain ⟨fd_are_takes, F_are_takes, C_are_takes⟩ := c.def1 12 (st := st_are_takes) (x := (PySem.Str.ofString "are_takes")) rfl
  obtain ⟨fd_is_keeper, F_is_keeper, C_is_keeper⟩ := c.def1 13 (st := st_is_keeper) (x := (PySem.Str.ofString "is_keeper")) rfl
  obtain ⟨fd_letters_of, F_letters_of, C_letters_of⟩ := c.def1 14 (st := st_letters_of) (x := (PySem.Str.ofString "letters_of")) rfl
  obtain ⟨fd_marks_of, F_marks_of, C_marks_of⟩ := c.def1 15 (st := st_marks_of) (x := (PySem.Str.ofString "marks_of")) rfl
  obtain ⟨fd_greatest_mark, F_greatest_mark, C_greatest_mark⟩ := c.def1 16 (st := st_greatest_mark) (x := (PySem.Str.ofString "greatest_mark")) rfl
  obtain ⟨fd_is_pair, F_is_pair, C_is_pair⟩ := c.def1 17 (st := st_is_pair) (x := (PySem.Str.ofString "is_pair")) rfl
  obtain ⟨fd_lines_of, F_lines_of, C_lines_of⟩ := c.def1 18 (st := st_lines_of) (x := (PySem.Str.ofString "lines_of")) rfl
  obtain ⟨fd_is_figures, F_is_figures, C_is_figures⟩ := c.def1 19 (st := st_is_figures) (x := (PySem.Str.ofString "is_figures")) rfl
  obtain ⟨fd_Reader___init__, F_Reader___init__, C_Reader___init__⟩ := c.defP 20 (p := ((PySem.Str.ofString "Reader"), some (PySem.Str.ofString "__init__"))) (st := st_Reader___init__) (x := (PySem.Str.ofString "__init__")) (q := (PySem.Str.ofString "Reader.__init__")) rfl
  obtain ⟨fd_Reader_is_done, F_Reader_is_done, C_Reader_is_done⟩ := c.defP 21 (p := ((PySem.Str.ofString "Reader"), some (PySem.Str.ofString "is_done"))) (st := st_Reader_is_done) (x := (PySem.Str.ofString "is_done")) (q := (PySem.Str.ofString "Reader.is_done")) rfl
  obtain ⟨fd_Reader_comes, F_Reader_comes, C_Reader_comes⟩ := c.defP 22 (p := ((PySem.Str.ofString "Reader"), some (PySem.Str.ofString "comes"))) (st := st_Reader_comes) (x := (PySem.Str.ofString "comes")) (q := (PySem.Str.ofString "Reader.comes")) rfl
  obtain ⟨fd_Reader_check, F_Reader_check, C_Reader_check⟩ := c.defP 23 (p := ((PySem.Str.ofString "Reader"), some (PySem.Str.ofString "check"))) (st := st_Reader_check) (x := (PySem.Str.ofString "check")) (q := (PySem.Str.ofString "Reader.check")) rfl
  obtain ⟨fd_Reader_behind, F_Reader_behind, C_Reader_behind⟩ := c.defP 24 (p := ((PySem.Str.ofString "Reader"), some (PySem.Str.ofString "behind"))) (st := st_Reader_behind) (x := (PySem.Str.ofString "behind")) (q := (PySem.Str.ofString "Reader.behind")) rfl
  obtain ⟨fd_Reader_counted, F_Reader_counted, C_Reader_counted⟩ := c.defP 25 (p := ((PySem.Str.ofString "Reader"), some (PySem.Str.ofString "counted"))) (st := st_Reader_counted) (x := (PySem.Str.ofString "counted")) (q := (PySem.Str.ofString "Reader.counted")) rfl
  obtain ⟨fd_Reader_counted_just, F_Reader_counted_just, C_Reader_counted_just⟩ := c.defP 26 (p := ((PySem.Str.ofString "Reader"), some (PySem.Str.ofString "counted_just"))) (st := st_Reader_counted_just) (x := (PySem.Str.ofString "counted_just")) (q := (PySem.Str.ofString "Reader.counted_just")) rfl
  obtain ⟨fd_Reader_end, F_Reader_end, C_Reader_end⟩ := c.defP 27 (p := ((PySem.Str.ofString "Reader"), some (PySem.Str.ofString "end"))) (st := st_Reader_end) (x := (PySem.Str.ofString "end")) (q := (PySem.Str.ofString "Reader.end")) rfl
  obtain ⟨fd_line_with, F_line_with, C_line_with⟩ := c.def1 28 (st := st_line_with) (x := (PySem.Str.ofString "line_with")) rfl
  obtain ⟨fd_machine_text, F_machine_text, C_machine_text⟩ := c.def1 29 (st := st_machine_text) (x := (PySem.Str.ofString "machine_text")) rfl
  obtain ⟨fd_run_text, F_run_text, C_run_text⟩ := c.def1 30 (st := st_run_text) (x := (PySem.Str.ofString "run_text")) rfl
  obtain ⟨fd_keeper_text, F_keeper_text, C_keeper_text⟩ := c.def1 31 (st := st_keeper_text) (x := (PySem.Str.ofString "keeper_text")) rfl
  obtain ⟨fd_pair_text, F_pair_text, C_pair_text⟩ := c.def1 32 (st := st_pair_text) (x := (PySem.Str.ofString "pair_text")) rfl
  obtain ⟨fd_machine_read, F_machine_read, C_machine_read⟩ := c.def1 33 (st := st_machine_read) (x := (PySem.Str.ofString "machine_read")) rfl
  obtain ⟨fd_event_read, F_event_read, C_event_read⟩ := c.def1 34 (st := st_event_read) (x := (PySem.Str.ofString "event_read")) rfl
  obtain ⟨fd_run_read, F_run_read, C_run_read⟩ := c.def1 35 (st := st_run_read) (x := (PySem.Str.ofString "run_read")) rfl
  obtain ⟨fd_keeper_lines_read, F_keeper_lines_read, C_keeper_lines_read⟩ := c.def1 36 (st := st_keeper_lines_read) (x := (PySem.Str.ofString "keeper_lines_read")) rfl
  obtain ⟨fd_keeper_read, F_keeper_read, C_keeper_read⟩ := c.def1 37 (st := st_keeper_read) (x := (PySem.Str.ofString "keeper_read")) rfl
  obtain ⟨fd_pair_read, F_pair_read, C_pair_read⟩ := c.def1 38 (st := st_pair_read) (x := (PySem.Str.ofString "pair_read")) rfl
  obtain ⟨fd__law_box, F__law_box, C__law_box⟩ := c.def1 39 (st := st__law_box) (x := (PySem.Str.ofString "_law_box")) rfl
  obtain ⟨fd__law_take, F__law_take, C__law_take⟩ := c.def1 40 (st := st__law_take) (x := (PySem.Str.ofString "_law_take")) rfl
  obtain ⟨fd__law_cells, F__law_cells, C__law_cells⟩ := c.def1 41 (st := st__law_cells) (x := (PySem.Str.ofString "_law_cells")) rfl
  obtain ⟨fd__law_lists, F__law_lists, C__law_lists⟩ := c.def1 42 (st := st__law_lists) (x := (PySem.Str.ofString "_law_lists")) rfl
  obtain ⟨fd__law_same, F__law_same, C__law_same⟩ := c.def1 43 (st := st__law_same) (x := (PySem.Str.ofString "_law_same")) rfl
  obtain ⟨fd__law_even, F__law_even, C__law_even⟩ := c.def1 44 (st := st__law_even) (x := (PySem.Str.ofString "_law_even")) rfl
  obtain ⟨fd__law_flip, F__law_flip, C__law_flip⟩ := c.def1 45 (st := st__law_flip) (x := (PySem.Str.ofString "_law_flip")) rfl
  obtain ⟨fd__law_lead, F__law_lead, C__law_lead⟩ := c.def1 46 (st := st__law_lead) (x := (PySem.Str.ofString "_law_lead")) rfl
  obtain ⟨fd__law_hear, F__law_hear, C__law_hear⟩ := c.def1 47 (st := st__law_hear) (x := (PySem.Str.ofString "_law_hear")) rfl
  obtain ⟨fd__law_heard, F__law_heard, C__law_heard⟩ := c.def1 48 (st := st__law_heard) (x := (PySem.Str.ofString "_law_heard")) rfl
  obtain ⟨fd__law_flip_text, F__law_flip_text, C__law_flip_text⟩ := c.def1 49 (st := st__law_flip_text) (x := (PySem.Str.ofString "_law_flip_text")) rfl
  obtain ⟨fd__law_two_text, F__law_two_text, C__law_two_text⟩ := c.def1 50 (st := st__law_two_text) (x := (PySem.Str.ofString "_law_two_text")) rfl
  obtain ⟨fd__law_always_right, F__law_always_right, C__law_always_right⟩ := c.def1 51 (st := st__law_always_right) (x := (PySem.Str.ofString "_law_always_right")) rfl
  obtain ⟨fd__law_told_right, F__law_told_right, C__law_told_right⟩ := c.def1 52 (st := st__law_told_right) (x := (PySem.Str.ofString "_law_told_right")) rfl
  obtain ⟨fd__law_lines_right, F__law_lines_right, C__law_lines_right⟩ := c.def1 53 (st := st__law_lines_right) (x := (PySem.Str.ofString "_law_lines_right")) rfl
  obtain ⟨fd__law_unfit_right, F__law_unfit_right, C__law_unfit_right⟩ := c.def1 54 (st := st__law_unfit_right) (x := (PySem.Str.ofString "_law_unfit_right")) rfl
  obtain ⟨fd_law, F_law, C_law⟩ := c.def1 55 (st := st_law) (x := (PySem.Str.ofString "law")) rfl
  obtain ⟨oc0, od0, kV0, dc0, pm0, an0, cd0, ct0, sl0, rfl, lk0, ci0⟩ := F_law.ex
  refine ⟨PySem.W.fnOf (PySem.Str.ofString "law") (PySem.Str.ofString "law") (defArgs st_law) (defBody st_law) (defScope st_law) .none kV0 dc0 pm0 an0 cd0 ct0, [], spLaw K,
    (fun p hp => nomatch hp),
    (fun p hp => nomatch hp),
    (fun p hp => nomatch hp),
    fun s v => .of_eq ?_, fun H a ns hl hb hO hS => ⟨a, ns, rfl, hl, hb, ⟨(fun p hp => nomatch hp), fun p hp => nomatch hp⟩, hS, fun _ => rfl⟩, fun base hK hG TB => ?_⟩
  rotate_left
  have B_is_number := F_is_number.binds (ps := ps_is_number) fun _ _ _ _ _ _ us hl => match us, hl with | [_], _ => by first | rfl | with_unfolding_all rfl
  have B_are_numbers_from := F_are_numbers_from.binds (ps := ps_are_numbers_from) fun _ _ _ _ _ _ us hl => match us, hl with | [_, _], _ => by first | rfl | with_unfolding_all rfl
  have B_are_places := F_are_places.binds (ps := ps_are_places) fun _ _ _ _ _ _ us hl => match us, hl with | [_, _], _ => by first | rfl | with_unfolding_all rfl
  have B_is_set_of_places := F_is_set_of_places.binds (ps := ps_is_set_of_places) fun _ _ _ _ _ _ us hl => match us, hl with | [_, _], _ => by first | rfl | with_unfolding_all rfl
  have B_are_steps := F_are_steps.binds (ps := ps_are_steps) fun _ _ _ _ _ _ us hl => match us, hl with | [_], _ => by first | rfl | with_unfolding_all rfl
  have B_is_machine := F_is_machine.binds (ps := ps_is_machine) fun _ _ _ _ _ _ us hl => match us, hl with | [_], _ => by first | rfl | with_unfolding_all rfl
  have B_letters_in := F_letters_in.binds (ps := ps_letters_in) fun _ _ _ _ _ _ us hl => match us, hl with | [_], _ => by first | rfl | with_unfolding_all rfl
  have B_is_event := F_is_event.binds (ps := ps_is_event) fun _ _ _ _ _ _ us hl => match us, hl with | [_], _ => by first | rfl | with_unfolding_all rfl
  have B_is_run := F_is_run.binds (ps := ps_is_run) fun _ _ _ _ _ _ us hl => match us, hl with | [_], _ => by first | rfl | with_unfolding_all rfl
  have B_are_rows := F_are_rows.binds (ps := ps_are_rows) fun _ _ _ _ _ _ us hl => match us, hl with | [_, _], _ => by first | rfl | with_unfolding_all rfl
  have B_is_step := F_is_step.binds (ps := ps_is_step) fun _ _ _ _ _ _ us hl => match us, hl with | [_, _], _ => by first | rfl | with_unfolding_all rfl
  have B_are_puts := F_are_puts.binds (ps := ps_are_puts) fun _ _ _ _ _ _ us hl => match us, hl with | [_, _], _ => by first | rfl | with_unfolding_all rfl
  have B_are_takes := F_are_takes.binds (ps := ps_are_takes) fun _ _ _ _ _ _ us hl => match us, hl with | [_, _], _ => by first | rfl | with_unfolding_all rfl
  have B_is_keeper := F_is_keeper.binds (ps := ps_is_keeper) fun _ _ _ _ _ _ us hl => match us, hl with | [_], _ => by first | rfl | with_unfolding_all rfl
  have B_letters_of := F_letters_of.binds (ps := ps_letters_of) fun _ _ _ _ _ _ us hl => match us, hl with | [_], _ => by first | rfl | with_unfolding_all rfl
  have B_marks_of := F_marks_of.binds (ps := ps_marks_of) fun _ _ _ _ _ _ us hl => match us, hl with | [_], _ => by first | rfl | with_unfolding_all rfl
  have B_greatest_mark := F_greatest_mark.binds (ps := ps_greatest_mark) fun _ _ _ _ _ _ us hl => match us, hl with | [_], _ => by first | rfl | with_unfolding_all rfl
  have B_is_pair := F_is_pair.binds (ps := ps_is_pair) fun _ _ _ _ _ _ us hl => match us, hl with | [_], _ => by first | rfl | with_unfolding_all rfl
  have B_lines_of := F_lines_of.binds (ps := ps_lines_of) fun _ _ _ _ _ _ us hl => match us, hl with | [_], _ => by first | rfl | with_unfolding_all rfl
  have B_is_figures := F_is_figures.binds (ps := ps_is_figures) fun _ _ _ _ _ _ us hl => match us, hl with | [_], _ => by first | rfl | with_unfolding_all rfl
  have B_Reader___init__ := F_Reader___init__.binds (ps := ps_Reader___init__) fun _ _ _ _ _ _ us hl => match us, hl with | [_, _], _ => by first | rfl | with_unfolding_all rfl
  have B_Reader_is_done := F_Reader_is_done.binds (ps := ps_Reader_is_done) fun _ _ _ _ _ _ us hl => match us, hl with | [_], _ => by first | rfl | with_unfolding_all rfl
  have B_Reader_comes := F_Reader_comes.binds (ps := ps_Reader_comes) fun _ _ _ _ _ _ us hl => match us, hl with | [_, _], _ => by first | rfl | with_unfolding_all rfl
  have B_Reader_check := F_Reader_check.binds (ps := ps_Reader_check) fun _ _ _ _ _ _ us hl => match us, hl with | [_, _], _ => by first | rfl | with_unfolding_all rfl
  have B_Reader_behind := F_Reader_behind.binds (ps := ps_Reader_behind) fun _ _ _ _ _ _ us hl => match us, hl with | [_, _], _ => by first | rfl | with_unfolding_all rfl
  have B_Reader_counted := F_Reader_counted.binds (ps := ps_Reader_counted) fun _ _ _ _ _ _ us hl => match us, hl with | [_, _], _ => by first | rfl | with_unfolding_all rfl
  have B_Reader_counted_just := F_Reader_counted_just.binds (ps := ps_Reader_counted_just) fun _ _ _ _ _ _ us hl => match us, hl with | [_, _, _], _ => by first | rfl | with_unfolding_all rfl
  have B_Reader_end := F_Reader_end.binds (ps := ps_Reader_end) fun _ _ _ _ _ _ us hl => match us, hl with | [_], _ => by first | rfl | with_unfolding_all rfl
  have B_line_with := F_line_with.binds (ps := ps_line_with) fun _ _ _ _ _ _ us hl => match us, hl with | [_, _], _ => by first | rfl | with_unfolding_all rfl
  have B_machine_text := F_machine_text.binds (ps := ps_machine_text) fun _ _ _ _ _ _ us hl => match us, hl with | [_], _ => by first | rfl | with_unfolding_all rfl
  have B_run_text := F_run_text.binds (ps := ps_run_text) fun _ _ _ _ _ _ us hl => match us, hl with | [_], _ => by first | rfl | with_unfolding_all rfl
  have B_keeper_text := F_keeper_text.binds (ps := ps_keeper_text) fun _ _ _ _ _ _ us hl => match us, hl with | [_], _ => by first | rfl | with_unfolding_all rfl
  have B_pair_text := F_pair_text.binds (ps := ps_pair_text) fun _ _ _ _ _ _ us hl => match us, hl with | [_], _ => by first | rfl | with_unfolding_all rfl
  have B_machine_read := F_machine_read.binds (ps := ps_machine_read) fun _ _ _ _ _ _ us hl => match us, hl with | [_], _ => by first | rfl | with_unfolding_all rfl
  have B_event_read := F_event_read.binds (ps := ps_event_read) fun _ _ _ _ _ _ us hl => match us, hl with | [_], _ => by first | rfl | with_unfolding_all rfl
  have B_run_read := F_run_read.binds (ps := ps_run_read) fun _ _ _ _ _ _ us hl => match us, hl with | [_], _ => by first | rfl | with_unfolding_all rfl
  have B_keeper_lines_read := F_keeper_lines_read.binds (ps := ps_keeper_lines_read) fun _ _ _ _ _ _ us hl => match us, hl with | [_], _ => by first | rfl | with_unfolding_all rfl
  have B_keeper_read := F_keeper_read.binds (ps := ps_keeper_read) fun _ _ _ _ _ _ us hl => match us, hl with | [_], _ => by first | rfl | with_unfolding_all rfl
  have B_pair_read := F_pair_read.binds (ps := ps_pair_read) fun _ _ _ _ _ _ us hl => match us, hl with | [_], _ => by first | rfl | with_unfolding_all rfl
  have B__law_box := F__law_box.binds (ps := ps__law_box) fun _ _ _ _ _ _ us hl => match us, hl with | [_, _], _ => by first | rfl | with_unfolding_all rfl
  have B__law_take := F__law_take.binds (ps := ps__law_take) fun _ _ _ _ _ _ us hl => match us, hl with | [_, _], _ => by first | rfl | with_unfolding_all rfl
  have B__law_cells := F__law_cells.binds (ps := ps__law_cells) fun _ _ _ _ _ _ us hl => match us, hl with | [_, _], _ => by first | rfl | with_unfolding_all rfl
  have B__law_lists := F__law_lists.binds (ps := ps__law_lists) fun _ _ _ _ _ _ us hl => match us, hl with | [_], _ => by first | rfl | with_unfolding_all rfl
  have B__law_same := F__law_same.binds (ps := ps__law_same) fun _ _ _ _ _ _ us hl => match us, hl with | [_, _], _ => by first | rfl | with_unfolding_all rfl
  have B__law_even := F__law_even.binds (ps := ps__law_even) fun _ _ _ _ _ _ us hl => match us, hl with | [], _ => by first | rfl | with_unfolding_all rfl
  have B__law_flip := F__law_flip.binds (ps := ps__law_flip) fun _ _ _ _ _ _ us hl => match us, hl with | [], _ => by first | rfl | with_unfolding_all rfl
  have B__law_lead := F__law_lead.binds (ps := ps__law_lead) fun _ _ _ _ _ _ us hl => match us, hl with | [], _ => by first | rfl | with_unfolding_all rfl
  have B__law_hear := F__law_hear.binds (ps := ps__law_hear) fun _ _ _ _ _ _ us hl => match us, hl with | [], _ => by first | rfl | with_unfolding_all rfl
  have B__law_heard := F__law_heard.binds (ps := ps__law_heard) fun _ _ _ _ _ _ us hl => match us, hl with | [_, _], _ => by first | rfl | with_unfolding_all rfl
  have B__law_flip_text := F__law_flip_text.binds (ps := ps__law_flip_text) fun _ _ _ _ _ _ us hl => match us, hl with | [], _ => by first | rfl | with_unfolding_all rfl
  have B__law_two_text := F__law_two_text.binds (ps := ps__law_two_text) fun _ _ _ _ _ _ us hl => match us, hl with | [], _ => by first | rfl | with_unfolding_all rfl
  have B__law_always_right := F__law_always_right.binds (ps := ps__law_always_right) fun _ _ _ _ _ _ us hl => match us, hl with | [], _ => by first | rfl | with_unfolding_all rfl
  have B__law_told_right := F__law_told_right.binds (ps := ps__law_told_right) fun _ _ _ _ _ _ us hl => match us, hl with | [], _ => by first | rfl | with_unfolding_all rfl
  have B__law_lines_right := F__law_lines_right.binds (ps := ps__law_lines_right) fun _ _ _ _ _ _ us hl => match us, hl with | [], _ => by first | rfl | with_unfolding_all rfl
  have B__law_unfit_right := F__law_unfit_right.binds (ps := ps__law_unfit_right) fun _ _ _ _ _ _ us hl => match us, hl with | [], _ => by first | rfl | with_unfolding_all rfl
  have B_law := F_law.binds (ps := ps_law) fun _ _ _ _ _ _ us hl => match us, hl with | [_], _ => by first | rfl | with_unfolding_all rfl
  have KC_machine_text_0_machine : KwC K _ ps_machine_text [(PySem.Str.ofString "machine")] 0 1 [0] := kwc_of F_machine_text (by decide) fun _ _ _ _ _ _ us ws h1 h2 => match us, ws, h1, h2 with | [], [_], _, _ => by first | rfl | with_unfolding_all rfl
  have KC_machine_read_0_text : KwC K _ ps_machine_read [(PySem.Str.ofString "text")] 0 1 [0] := kwc_of F_machine_read (by decide) fun _ _ _ _ _ _ us ws h1 h2 => match us, ws, h1, h2 with | [], [_], _, _ => by first | rfl | with_unfolding_all rfl
  have KC_run_text_0_run : KwC K _ ps_run_text [(PySem.Str.ofString "run")] 0 1 [0] := kwc_of F_run_text (by decide) fun _ _ _ _ _ _ us ws h1 h2 => match us, ws, h1, h2 with | [], [_], _, _ => by first | rfl | with_unfolding_all rfl
  have KC_run_read_0_text : KwC K _ ps_run_read [(PySem.Str.ofString "text")] 0 1 [0] := kwc_of F_run_read (by decide) fun _ _ _ _ _ _ us ws h1 h2 => match us, ws, h1, h2 with | [], [_], _, _ => by first | rfl | with_unfolding_all rfl
  have KC_keeper_text_0_keeper : KwC K _ ps_keeper_text [(PySem.Str.ofString "keeper")] 0 1 [0] := kwc_of F_keeper_text (by decide) fun _ _ _ _ _ _ us ws h1 h2 => match us, ws, h1, h2 with | [], [_], _, _ => by first | rfl | with_unfolding_all rfl
  have KC_keeper_read_0_text : KwC K _ ps_keeper_read [(PySem.Str.ofString "text")] 0 1 [0] := kwc_of F_keeper_read (by decide) fun _ _ _ _ _ _ us ws h1 h2 => match us, ws, h1, h2 with | [], [_], _, _ => by first | rfl | with_unfolding_all rfl
  have KC_pair_text_0_pair : KwC K _ ps_pair_text [(PySem.Str.ofString "pair")] 0 1 [0] := kwc_of F_pair_text (by decide) fun _ _ _ _ _ _ us ws h1 h2 => match us, ws, h1, h2 with | [], [_], _, _ => by first | rfl | with_unfolding_all rfl
  have KC_pair_read_0_text : KwC K _ ps_pair_read [(PySem.Str.ofString "text")] 0 1 [0] := kwc_of F_pair_read (by decide) fun _ _ _ _ _ _ us ws h1 h2 => match us, ws, h1, h2 with | [], [_], _, _ => by first | rfl | with_unfolding_all rfl
  have G_is_number := ok_is_number (P := l.prog) (w := w) (base := base) T F_is_number
  have G_are_numbers_from := ok_are_numbers_from (P := l.prog) (w := w) (base := base) T F_are_numbers_from G_is_number B_is_number
  have G_are_places := ok_are_places (P := l.prog) (w := w) (base := base) T F_are_places G_are_numbers_from B_are_numbers_from
  have G_is_set_of_places := ok_is_set_of_places (P := l.prog) (w := w) (base := base) T F_is_set_of_places G_are_places B_are_places
  have G_are_steps := ok_are_steps (P := l.prog) (w := w) (base := base) T F_are_steps G_are_places B_are_places
  have G_is_machine := ok_is_machine (P := l.prog) (w := w) (base := base) T F_is_machine G_are_steps B_are_steps G_is_set_of_places B_is_set_of_places
  have G_letters_in := ok_letters_in (P := l.prog) (w := w) (base := base) T F_letters_in
  have G_is_event := ok_is_event (P := l.prog) (w := w) (base := base) T F_is_event G_are_numbers_from B_are_numbers_from
  have G_is_run := ok_is_run (P := l.prog) (w := w) (base := base) T F_is_run G_is_event B_is_event
  have G_are_rows := ok_are_rows (P := l.prog) (w := w) (base := base) T F_are_rows
  have G_is_step := ok_is_step (P := l.prog) (w := w) (base := base) T F_is_step G_are_numbers_from B_are_numbers_from
  have G_are_puts := ok_are_puts (P := l.prog) (w := w) (base := base) T F_are_puts G_are_rows B_are_rows G_is_step B_is_step
  have G_are_takes := ok_are_takes (P := l.prog) (w := w) (base := base) T F_are_takes G_are_rows B_are_rows G_are_places B_are_places
  have G_is_keeper := ok_is_keeper (P := l.prog) (w := w) (base := base) T F_is_keeper G_are_puts B_are_puts G_are_takes B_are_takes
  have G_letters_of := ok_letters_of (P := l.prog) (w := w) (base := base) T F_letters_of
  have G_marks_of := ok_marks_of (P := l.prog) (w := w) (base := base) T F_marks_of
  have G_greatest_mark := ok_greatest_mark (P := l.prog) (w := w) (base := base) T F_greatest_mark
  have G_is_pair := ok_is_pair (P := l.prog) (w := w) (base := base) T F_is_pair G_is_keeper B_is_keeper G_letters_of B_letters_of G_greatest_mark B_greatest_mark G_marks_of B_marks_of
  have G_lines_of := ok_lines_of (P := l.prog) (w := w) (base := base) T F_lines_of
  have G_is_figures := ok_is_figures (P := l.prog) (w := w) (base := base) T F_is_figures
  have G_Reader___init__ := ok_Reader___init__ (P := l.prog) (w := w) (base := base) T F_Reader___init__ G_lines_of B_lines_of
  have G_Reader_is_done := ok_Reader_is_done (P := l.prog) (w := w) (base := base) T F_Reader_is_done
  have G_Reader_comes := ok_Reader_comes (P := l.prog) (w := w) (base := base) T F_Reader_comes G_Reader_is_done B_Reader_is_done
  have G_Reader_check := ok_Reader_check (P := l.prog) (w := w) (base := base) T F_Reader_check
  have G_Reader_behind := ok_Reader_behind (P := l.prog) (w := w) (base := base) T F_Reader_behind G_Reader_comes B_Reader_comes G_Reader_check B_Reader_check
  have G_Reader_counted := ok_Reader_counted (P := l.prog) (w := w) (base := base) T F_Reader_counted G_Reader_behind B_Reader_behind G_Reader_check B_Reader_check G_is_figures B_is_figures
  have G_Reader_counted_just := ok_Reader_counted_just (P := l.prog) (w := w) (base := base) T F_Reader_counted_just G_Reader_counted B_Reader_counted G_Reader_check B_Reader_check
  have G_Reader_end := ok_Reader_end (P := l.prog) (w := w) (base := base) T F_Reader_end G_Reader_is_done B_Reader_is_done
  have G_line_with := ok_line_with (P := l.prog) (w := w) (base := base) T F_line_with
  have G_machine_text := ok_machine_text (P := l.prog) (w := w) (base := base) T F_machine_text G_line_with B_line_with G_letters_in B_letters_in
  have G_run_text := ok_run_text (P := l.prog) (w := w) (base := base) T F_run_text G_line_with B_line_with
  have G_keeper_text := ok_keeper_text (P := l.prog) (w := w) (base := base) T F_keeper_text G_line_with B_line_with G_letters_of B_letters_of G_marks_of B_marks_of
  have G_pair_text := ok_pair_text (P := l.prog) (w := w) (base := base) T F_pair_text G_keeper_text B_keeper_text
  have G_machine_read := ok_machine_read (P := l.prog) (w := w) (base := base) T F_machine_read G_Reader___init__ B_Reader___init__ G_Reader_counted_just B_Reader_counted_just G_Reader_check B_Reader_check G_Reader_comes B_Reader_comes G_Reader_counted B_Reader_counted G_Reader_end B_Reader_end G_is_machine B_is_machine
  have G_event_read := ok_event_read (P := l.prog) (w := w) (base := base) T F_event_read G_Reader_comes B_Reader_comes G_Reader_counted_just B_Reader_counted_just G_Reader_check B_Reader_check
  have G_run_read := ok_run_read (P := l.prog) (w := w) (base := base) T F_run_read G_Reader___init__ B_Reader___init__ G_Reader_counted_just B_Reader_counted_just G_Reader_is_done B_Reader_is_done G_event_read B_event_read G_is_run B_is_run
  have G_keeper_lines_read := ok_keeper_lines_read (P := l.prog) (w := w) (base := base) T F_keeper_lines_read G_Reader_counted_just B_Reader_counted_just G_Reader_check B_Reader_check G_Reader_behind B_Reader_behind
  have G_keeper_read := ok_keeper_read (P := l.prog) (w := w) (base := base) T F_keeper_read G_Reader___init__ B_Reader___init__ G_keeper_lines_read B_keeper_lines_read G_Reader_end B_Reader_end G_is_keeper B_is_keeper
  have G_pair_read := ok_pair_read (P := l.prog) (w := w) (base := base) T F_pair_read G_Reader___init__ B_Reader___init__ G_keeper_lines_read B_keeper_lines_read G_Reader_end B_Reader_end G_is_pair B_is_pair
  have G__law_box := ok__law_box (P := l.prog) (w := w) (base := base) T F__law_box
  have G__law_take := ok__law_take (P := l.prog) (w := w) (base := base) T F__law_take
  have G__law_cells := ok__law_cells (P := l.prog) (w := w) (base := base) T F__law_cells
  have G__law_lists := ok__law_lists (P := l.prog) (w := w) (base := base) T F__law_lists B__law_lists
  have G__law_same := ok__law_same (P := l.prog) (w := w) (base := base) T F__law_same B__law_same
  have G__law_even := ok__law_even (P := l.prog) (w := w) (base := base) T F__law_even
  have G__law_flip := ok__law_flip (P := l.prog) (w := w) (base := base) T F__law_flip
  have G__law_lead := ok__law_lead (P := l.prog) (w := w) (base := base) T F__law_lead
  have G__law_hear := ok__law_hear (P := l.prog) (w := w) (base := base) T F__law_hear
  have G__law_heard := ok__law_heard (P := l.prog) (w := w) (base := base) T F__law_heard G_machine_read B_machine_read G_run_read B_run_read G_keeper_read B_keeper_read G_pair_read B_pair_read
  have G__law_flip_text := ok__law_flip_text (P := l.prog) (w := w) (base := base) T F__law_flip_text
  have G__law_two_text := ok__law_two_text (P := l.prog) (w := w) (base := base) T F__law_two_text
  have G__law_always_right := ok__law_always_right (P := l.prog) (w := w) (base := base) T F__law_always_right G_machine_text B_machine_text G__law_even B__law_even G__law_heard B__law_heard G_run_text B_run_text G_keeper_text B_keeper_text G__law_flip B__law_flip G__law_flip_text B__law_flip_text G_pair_text B_pair_text G__law_lead B__law_lead G__law_hear B__law_hear G__law_two_text B__law_two_text G__law_same B__law_same
  have G__law_told_right := ok__law_told_right (P := l.prog) (w := w) (base := base) T F__law_told_right G__law_even B__law_even G__law_flip B__law_flip G__law_lead B__law_lead G__law_hear B__law_hear G_machine_text B_machine_text G__law_lists B__law_lists G_machine_read B_machine_read G_run_text B_run_text G_run_read B_run_read G_keeper_text B_keeper_text G_keeper_read B_keeper_read G_pair_text B_pair_text G_pair_read B_pair_read G__law_flip_text B__law_flip_text G__law_two_text B__law_two_text G__law_same B__law_same KC_machine_text_0_machine KC_machine_read_0_text KC_run_text_0_run KC_run_read_0_text KC_keeper_text_0_keeper KC_keeper_read_0_text KC_pair_text_0_pair KC_pair_read_0_text
  have G__law_lines_right := ok__law_lines_right (P := l.prog) (w := w) (base := base) T F__law_lines_right G__law_flip_text B__law_flip_text G__law_two_text B__law_two_text G__law_heard B__law_heard G__law_same B__law_same
  have G__law_unfit_right := ok__law_unfit_right (P := l.prog) (w := w) (base := base) T F__law_unfit_right G__law_flip_text B__law_flip_text G__law_two_text B__law_two_text G__law_heard B__law_heard G__law_same B__law_same
  have G_law := ok_law (P := l.prog) (w := w) (base := base) T F_law G__law_always_right B__law_always_right G__law_take B__law_take G__law_box B__law_box G__law_cells B__law_cells G__law_told_right B__law_told_right G__law_lines_right B__law_lines_right G__law_unfit_right B__law_unfit_right hz
  exact law_ok hz G_law law_true
  first | rfl | with_unfolding_all rfl

end
end Gn
open PySem PySem.W PyProof.Rows
set_option maxRecDepth 100000 in
set_option maxHeartbeats 0 in
theorem PySem.Challenge.cw_bothroads_k34_texts_by_hand_and_refused_holds : PySem.Challenge.rw_bothroads_k34_texts_by_hand_and_refused.Holds := by
  refine Hd.head ?hc
  case hc =>
    refine LamX.walk_ofTsE (l := PySem.Challenge.rw_bothroads_k34_texts_by_hand_and_refused) (n := 63) (k := 43) (x := "script") (CX := fun w => L2.CX PySem.Challenge.pw_bothroads_k34_texts_by_hand_and_refused w) rfl (by decide) Hd.dl_none ⟨rfl, by decide, by decide⟩ ?F (fun _ _ _ _ _ z => @Rh.cx_false ⟨[], none, [], []⟩ _ _ _ _ _ _ _ z)
    intro w mg fa h Y G hmg0
    obtain ⟨K, KX, c⟩ := Y
    have hmg : mg (PySem.Str.ofString "law") = some (.ref fa) := by
      rw [← Hd.dl_name]
      exact hmg0
    exact ⟨K, KX, Gn.all_fx (l := PySem.Challenge.rw_bothroads_k34_texts_by_hand_and_refused) KX G c hmg⟩
end
