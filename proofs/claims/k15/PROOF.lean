import PyProof.Rows.All
import Wide.All
import OpenK.AllK
import Wide.FinOn
import HandS.ForMost
import HandS.ExcInit
import HandS.ExcIs
import HandS.Nested
import KE.KExcInit
import PyProof.ExcBaseAll.LookupError
import PyProof.ExcBaseAll.ArithmeticError
import PyProof.ExcBaseAll.RuntimeError
import PyProof.ExcBaseAll.ValueError
import HandS.ExcField
import KE.KExcIs
import HandS.ExcValue
import PyProof.ReprRoads
import HandS.EndTab
import HandS.Flow
import HandS.Small
import HandS.IsInst
import HandS.RaiseMore
import HandS.Walk
import HandS.FStr
import HandS.Style
import HandS.Codes
import HandS.Star
import HandS.Wide
import HandS.TupLe
import KE.KStateDown
import HandS.Head0
import HandS.Head1
import HandS.Head2
import HandS.Deep
import HandS.Defaults
import HandS.WordsExc
import HandS.AnyAll
import PyProof.NeKinds
import PyProof.InstNe
import HandS.Conv
import HandS.Text
import HandS.StrMore
import PySem.Challenge.RW_innerasks_k15_how_deep_texts_go
import HandS.More
set_option Elab.async false
set_option linter.all false
set_option maxRecDepth 100000
set_option maxHeartbeats 4000000
namespace PySem
namespace AskX
open Builtin Builtin.ObjectAttr
/-- what the mro behind an own error class must say; B makes its instances -/
structure Tail (T : List Value) (B newId : String) : Prop where
  made : ∃ initId bmB, ExcBaseFacts B newId initId bmB
  has : T.contains (.type B) = true
  noA : T.contains (.type "AttributeError") = false
  noN : T.contains (.type "NameError") = false
  obj : T.contains (.type "object") = true
  pass : ∀ self : Value, refuseLoop self "__setattr__" T = pure ()
theorem tail_V : Tail [.type "ValueError", .type "Exception", .type "BaseException", .type "object"] "ValueError" "ValueError.__new__" :=
  ⟨⟨_, _, F.excBase_ValueError⟩, by decide +kernel, by decide +kernel, by decide +kernel, by decide +kernel, fun self => by kernel_rfl⟩
theorem tail_L : Tail [.type "LookupError", .type "Exception", .type "BaseException", .type "object"] "LookupError" "LookupError.__new__" :=
  ⟨⟨_, _, F.excBase_LookupError⟩, by decide +kernel, by decide +kernel, by decide +kernel, by decide +kernel, fun self => by kernel_rfl⟩
theorem tail_K : Tail [.type "KeyError", .type "LookupError", .type "Exception", .type "BaseException", .type "object"] "LookupError" "LookupError.__new__" :=
  ⟨⟨_, _, F.excBase_LookupError⟩, by decide +kernel, by decide +kernel, by decide +kernel, by decide +kernel, fun self => by kernel_rfl⟩
theorem tail_A : Tail [.type "ArithmeticError", .type "Exception", .type "BaseException", .type "object"] "ArithmeticError" "ArithmeticError.__new__" :=
  ⟨⟨_, _, F.excBase_ArithmeticError⟩, by decide +kernel, by decide +kernel, by decide +kernel, by decide +kernel, fun self => by kernel_rfl⟩
theorem tail_R : Tail [.type "RuntimeError", .type "Exception", .type "BaseException", .type "object"] "RuntimeError" "RuntimeError.__new__" :=
  ⟨⟨_, _, F.excBase_RuntimeError⟩, by decide +kernel, by decide +kernel, by decide +kernel, by decide +kernel, fun self => by kernel_rfl⟩
section
variable {M : Model} {A : Around} {E : Value → Shared → Prop} {hp : Heap} {gs : Array GenState} {dr : Drawn} {tk : Nat} {os : OsState}
variable {nm q : Str} {C N : Addr} {bs T bmB : List Value} {hdct : Bool} {sn : List Str} {sub : List Value} {ab : Bool} {col : Option Bool} {dd : Option Addr} {k0 k1 k2 k3 k5 : Option Value} {B newId initId : String}
/-- __new__ is asked rightly -/
theorem tl_check (F : ExcBaseFacts B newId initId bmB) (hB : T.contains (.type B) = true) {more : List Value} {Q : Unit → Shared → Prop} (hC : hp.get? C = some (excClassObj nm q C N bs T hdct sn sub ab col dd k0 k1 k2 k3 k5 newId)) (done : Q () ⟨hp, gs, dr, tk, os⟩) :
    wpAny M A (checkBuiltinCall newId ⟨.ref C :: more, []⟩) Q E ⟨hp, gs, dr, tk, os⟩ := by
  have inB : (Value.ref C :: T).contains (.type B) = true := by
    rw [List.contains_cons, hB]
    exact Bool.or_true _
  have hstar := F.noStar
  simp only [checkBuiltinCall, F.newKind, F.newSplit, F.newRow]
  repeat (first
    | refine wpAny_loadPart_at hC ?_
    | (refine wpAny_isSubtype_exc hC ?_; rw [inB])
    | refine wpAny_staticBase_exc hC ?_
    | refine wpAny_madeBy_exc hC ?_
    | simp only [bne_self_eq_false, Bool.false_eq_true, if_false]
    | wp_step)
  exact done
end
section
variable {prog : Program} {w : World} {A : Around} {E : Value → Shared → Prop} {R : Result → Shared → Prop} {hp : Heap} {gs : Array GenState} {dr : Drawn} {tk : Nat} {os : OsState}
variable {nm q : Str} {C N : Addr} {bs T : List Value} {hdct : Bool} {sn : List Str} {sub : List Value} {ab : Bool} {col : Option Bool} {dd : Option Addr} {k0 k1 k2 k3 k5 : Option Value} {B newId : String}
theorem tl_new {bmB : List Value} {initId : String} (F : ExcBaseFacts B newId initId bmB) (L : Tail T B newId) {more : List Value} (hC : hp.get? C = some (excClassObj nm q C N bs T hdct sn sub ab col dd k0 k1 k2 k3 k5 newId)) (hz : more.length ≤ sizeLine)
    (done : R (.ok (.ret (.ref (hp.objs.size + 1)))) ⟨(hp.push (W.kdv_tup more)).push (HandSPX.excO C hp.objs.size), gs, dr, tk, os⟩) : codeAny (model prog w) A (.builtin newId ⟨.ref C :: more, []⟩) R ⟨hp, gs, dr, tk, os⟩ := by
  have hends := F.ends
  have inB : (Value.ref C :: T).contains (.type B) = true := by rw [List.contains_cons, L.has]; exact Bool.or_true _
  have inA : (Value.ref C :: T).contains (.type "AttributeError") = false := by rw [List.contains_cons, L.noA]; rfl
  have inN : (Value.ref C :: T).contains (.type "NameError") = false := by rw [List.contains_cons, L.noN]; rfl
  refine codeAny_builtinAt F.entry ?_
  unfold Builtin.«BaseException.__new__»
  refine wpAt_bind ?_
  show wpAt _ _ _ (stack >>= _) _ _ _
  refine wpAt_bind (wpAt_stack fun p below => wpAt_of_wpAny ?_)
  wp_walk
  refine wpAt_of_wpAny ?_
  rw [F.owner]
  repeat (first
    | with_reducible refine wpAny_madeHere_exc F.canon hC ?_
    | with_reducible refine wpAny_loadPart_at hC ?_
    | (with_reducible refine wpAny_isSubtype_exc hC ?_
       first | rw [inB] | rw [inA] | rw [inN])
    | wp_step)
  show R _ _
  rw [Heap.size_push]
  exact done
theorem tl_type_call (L : Tail T B newId) {more : List Value} {fI : Addr} {Q : Fin → Shared → Prop} (hC : hp.get? C = some (excClassObj nm q C N bs T hdct sn sub ab col dd k0 k1 k2 k3 k5 newId))
    (hi : W.Looks (model prog w) hp (typeLookup (.ref C) "__init__") (some (.ref fI))) (hb : ∀ self, W.Looks (model prog w) hp (bindSpecial (.ref fI) self) (.ref fI, [self])) (hz : more.length ≤ sizeLine)
    (done : codeAny (model prog w) A (.call (.ref fI) ⟨.ref (hp.objs.size + 1) :: more, []⟩) (fun r s' => match r with | .ok (.ret v) => v = .none ∧ Q (.done (.ret (.ref (hp.objs.size + 1)))) s' | .ok _ => False | .error e => E e s')
      ⟨(hp.push (W.kdv_tup more)).push (HandSPX.excO C hp.objs.size), gs, dr, tk, os⟩) : wpAny (model prog w) A (Builtin.«type.__call__» ⟨.ref C :: more, []⟩) Q E ⟨hp, gs, dr, tk, os⟩ := by
  obtain ⟨initId, bmB, F⟩ := L.made
  repeat (first
    | with_reducible refine wpAny_loadPart_at hC ?_
    | with_reducible refine wpAny_madeBy_exc hC ?_
    | wp_step)
  refine codeAny_call_builtin_code (Code.quiet_builtin _ F.quiet) (tl_check F L.has hC (tl_new F L hC hz ?_))
  show wpAny _ _ _ _ _ _
  have kp : ∀ b o, hp.get? b = some o → ((hp.push (W.kdv_tup more)).push (HandSPX.excO C hp.objs.size)).get? b = some o := fun b o e => Heap.get?_push_of_some _ (Heap.get?_push_of_some _ e)
  have hC2 := kp _ _ hC
  have hobj : ((hp.push (W.kdv_tup more)).push (HandSPX.excO C hp.objs.size)).get? (hp.objs.size + 1) = some (HandSPX.excO C hp.objs.size) := by heap_get
  have inC : (Value.ref C :: T).contains (.ref C) = true := by simp
  have i1 := hi.keeps kp
  have b1 := (hb (.ref (hp.objs.size + 1))).keeps kp
  unfold isInstance
  repeat (first
    | with_reducible refine wpAny_loadPart_at hobj ?_
    | (with_reducible refine wpAny_isSubtype_exc hC2 ?_
       rw [inC])
    | wp_step)
  show wpAny _ _ (typeLookup (.ref C) _) _ _ _
  refine i1.at (wpAny_holding (wpAny_bind (b1.at (wpAny_bind (wpAny_call (codeAny_mono done fun r s' z => ?_))))))
  rcases r with er | (u | _ | _ | _) <;> first
    | exact z
    | exact z.elim
    | skip
  obtain ⟨rfl, z⟩ := z
  first
    | exact wpAny_pure (wpAny_pure z)
    | (wp_walk; exact z)
theorem tl_call (L : Tail T B newId) {more : List Value} {fI : Addr} (hC : hp.get? C = some (excClassObj nm q C N bs T hdct sn sub ab col dd k0 k1 k2 k3 k5 newId))
    (hi : W.Looks (model prog w) hp (typeLookup (.ref C) "__init__") (some (.ref fI))) (hb : ∀ self, W.Looks (model prog w) hp (bindSpecial (.ref fI) self) (.ref fI, [self])) (hz : more.length ≤ sizeLine)
    (done : codeAny (model prog w) (A.under (.builtin "type.__call__" ⟨.ref C :: more, []⟩)) (.call (.ref fI) ⟨.ref (hp.objs.size + 1) :: more, []⟩) (W.InitBack (hp.objs.size + 1) R)
      ⟨(hp.push (W.kdv_tup more)).push (HandSPX.excO C hp.objs.size), gs, dr, tk, os⟩) : codeAny (model prog w) A (.call (.ref C) ⟨more, []⟩) R ⟨hp, gs, dr, tk, os⟩ := by
  have f1 := tc_lookup
  have f2 := tc_bind (.ref C)
  have hTy : (⟨hp, gs, dr, tk, os⟩ : Shared).TypeIs (.ref C) "type" := ⟨_, hC, rfl⟩
  refine codeAny_of_tree ?_
  show wpAny _ _ (callAny (.ref C) _) _ _ _
  repeat (any_goals (first
    | assumption
    | with_reducible refine wpAny_loadPart_at hC ?_
    | wp_step))
  refine ⟨rfl, codeAny_call_builtin_at (Code.quiet_builtin _ (by decide +kernel)) entry_typeCall (wpAny_check_type_call_sub hC (tl_type_call L hC hi hb hz (codeAny_mono done fun r s' z => ?_)))⟩
  rcases r with e | (v | _ | _ | _) <;> exact z
end
end AskX
end PySem
namespace PySem
namespace AskX
open PySem.W PySem.Calls PyProof.Rows PySem.HandSPX
open Builtin Builtin.ObjectAttr
section
variable {prog : Program} {w : World} {A : Around} {R : Result → Shared → Prop} {hp : Heap} {gs : Array GenState} {dr : Drawn} {tk0 : Nat} {os : OsState}
/-- what the class says, its mro as one's own class and the tail -/
structure MroOk (cd : ClassData) : Prop where
  ne : cd.mro.isEmpty = false
  obj : cd.mro.contains (.type "object") = true
  pass : ∀ self : Value, refuseLoop self "__setattr__" cd.mro = pure ()
theorem MroOk.of {cd : ClassData} {C : Addr} {T : List Value} {B newId : String} (L : Tail T B newId) (e : cd.mro = .ref C :: T) : MroOk cd := by
  refine ⟨by rw [e]; rfl, ?_, fun self => ?_⟩
  · rw [e, List.contains_cons, L.obj]
    exact Bool.or_true _
  · rw [e, refuseLoop_ref]
    exact L.pass self
/-- self.name = v: the first field -/
theorem tl_set_new {K : W.Frag} {name : Str} {tk : Tok} {v : Value} {x C : Addr} {fv : Array Value} {cd : ClassData} (X : K.In hp) (hx : hp.get? x = some { cls := .ref C, data := .fields fv }) (hcd : W.clsIn K C = some cd) (hm : MroOk cd) (hh : cd.hasDict = true)
    (ha : W.findIn K (.ref C) name = some none)
    (done : ∀ h' tk' dx, (∀ b o, b ≠ x → hp.get? b = some o → h'.get? b = some o) → hp.objs.size ≤ dx → dx ≠ x → h'.get? x = some { cls := .ref C, dict := some dx, data := .fields fv } →
      h'.Ns1 dx (fun y => if y = name then some v else none) → R (.ok (.ret .none)) ⟨h', gs, dr, tk', os⟩) :
    codeAny (model prog w) A (.call (.builtin "object.__setattr__") ⟨[.ref x, .str name tk, v], []⟩) R ⟨hp, gs, dr, tk0, os⟩ := by
  have IA : W.InstAt hp x { cls := .ref C, data := .fields fv } C none := ⟨hx, rfl, rfl, trivial⟩
  have SF := F.store_object
  have nx : x ≠ hp.objs.size := Nat.ne_of_lt (Heap.lt_size hx)
  have isO : W.Looks (model prog w) hp (isInstance (.ref x) (.type "object")) true := by
    refine IA.type.andThen (W.looks_mroIn X ?_)
    unfold W.mroIn
    rw [hcd, Option.bind_some, if_neg (by rw [hm.ne]; decide), hm.obj]
  refine codeAny_call_builtin SF.slot.plain SF.entry ?_
  refine @W.check_slot (model prog w) _ _ ⟨hp, gs, dr, tk0, os⟩ "object.__setattr__" "object" "__setattr__" (.ref x) [.str name tk, v] [] _ SF.kind SF.split isO (SF.args _ _ _) ?_
  have lm : W.Looks (model prog w) hp (mroOf (.ref C)) cd.mro := (W.looks_clsIn X hcd).andThen .now
  have lt : W.Looks (model prog w) hp (storeTaker? none) none := .now
  have lc : W.Looks (model prog w) hp (classData C) cd := W.looks_clsIn X hcd
  rw [W.osa_eq, refuse_eq]
  refine wpAny_bind (wpAny_bind (IA.type.at (wpAny_bind (lm.at ?_))))
  rw [hm.pass]
  refine wpAny_pure (wpAny_bind (IA.type.at (wpAny_bind ?_)))
  refine (W.looks_findIn X ha).at (wpAny_bind (lt.at ?_))
  show wpAny _ _ (storeInOwnDict (.ref x) (.ref C) (.str name tk) name v false) _ _ _
  obtain ⟨c1, c2, c3, c4, c5, c6, c7, c8, c9, c10, c11⟩ := cd
  dsimp only at hh
  subst hh
  unfold storeInOwnDict ownDictForStores
  repeat (first
    | with_reducible refine HandSPX.store_in_new ?_ ?_
    | with_reducible refine wpAny_loadPart_at hx ?_
    | with_reducible refine lc.at ?_
    | wp_step)
  · exact ⟨_, #[], _, (Heap.get?_update_ne _ _ _ _ nx.symm).trans (Heap.get?_push_at rfl rfl), rfl, fun e he => absurd he (by simp), fun _ => rfl⟩
  · intro h' tk' hn' hs
    have hx1 : (hp.push { cls := .type "dict", data := .dict #[] }).get? x = some { cls := .ref C, data := .fields fv } := Heap.get?_push_of_some _ hx
    refine done h' tk' hp.objs.size (fun b o hb ho => ?_) (Nat.le_refl _) nx.symm ?_ hn'
    · have n2 : b ≠ hp.objs.size := Nat.ne_of_lt (Heap.lt_size ho)
      exact (hs.2 b n2).trans ((Heap.get?_update_ne _ _ _ _ hb).trans (Heap.get?_push_of_some _ ho))
    · exact (hs.2 x nx).trans (Heap.get?_update_self _ hx1 rfl)
/-- self.name = v: a later field -/
theorem tl_set_old {K : W.Frag} {name : Str} {tk : Tok} {v : Value} {x C dx : Addr} {fv : Array Value} {cd : ClassData} {m0 : Str → Option Value} {nl : List Str} (X : K.In hp) (hx : hp.get? x = some { cls := .ref C, dict := some dx, data := .fields fv }) (hns : hp.Ns1 dx m0) (hw : Within m0 nl)
    (hz : nl.length ≤ 1000) (hcd : W.clsIn K C = some cd) (hm : MroOk cd) (hh : cd.hasDict = true) (ha : W.findIn K (.ref C) name = some none)
    (done : ∀ h' tk', (∀ b o, b ≠ dx → hp.get? b = some o → h'.get? b = some o) → h'.Ns1 dx (fun y => if y = name then some v else m0 y) → R (.ok (.ret .none)) ⟨h', gs, dr, tk', os⟩) :
    codeAny (model prog w) A (.call (.builtin "object.__setattr__") ⟨[.ref x, .str name tk, v], []⟩) R ⟨hp, gs, dr, tk0, os⟩ := by
  obtain ⟨oD, _, _, hoD, _, _⟩ := hns.count hw
  have IA : W.InstAt hp x { cls := .ref C, dict := some dx, data := .fields fv } C (some oD) := ⟨hx, rfl, rfl, hoD⟩
  have SF := F.store_object
  have isO : W.Looks (model prog w) hp (isInstance (.ref x) (.type "object")) true := by
    refine IA.type.andThen (W.looks_mroIn X ?_)
    unfold W.mroIn
    rw [hcd, Option.bind_some, if_neg (by rw [hm.ne]; decide), hm.obj]
  refine codeAny_call_builtin SF.slot.plain SF.entry ?_
  refine @W.check_slot (model prog w) _ _ ⟨hp, gs, dr, tk0, os⟩ "object.__setattr__" "object" "__setattr__" (.ref x) [.str name tk, v] [] _ SF.kind SF.split isO (SF.args _ _ _) ?_
  have lm : W.Looks (model prog w) hp (mroOf (.ref C)) cd.mro := (W.looks_clsIn X hcd).andThen .now
  have lt : W.Looks (model prog w) hp (storeTaker? none) none := .now
  have lc : W.Looks (model prog w) hp (classData C) cd := W.looks_clsIn X hcd
  rw [W.osa_eq, refuse_eq]
  refine wpAny_bind (wpAny_bind (IA.type.at (wpAny_bind (lm.at ?_))))
  rw [hm.pass]
  refine wpAny_pure (wpAny_bind (IA.type.at (wpAny_bind ?_)))
  refine (W.looks_findIn X ha).at (wpAny_bind (lt.at ?_))
  show wpAny _ _ (storeInOwnDict (.ref x) (.ref C) (.str name tk) name v false) _ _ _
  obtain ⟨c1, c2, c3, c4, c5, c6, c7, c8, c9, c10, c11⟩ := cd
  dsimp only at hh
  subst hh
  unfold storeInOwnDict ownDictForStores
  repeat (first
    | with_reducible refine OEX.store_in_old hns hw hz ?_
    | with_reducible refine wpAny_loadPart_at hx ?_
    | with_reducible refine lc.at ?_
    | wp_step)
  intro h' tk' hn' hs
  exact done h' tk' (fun b o hb ho => (hs.2 b hb).trans ho) hn'
end
end AskX
end PySem
namespace Ask
open PySem L2 PySem.Spec PyProof.Rows PySem.AskX
/-! ### errors of own classes, kept as values -/
/-- what is told of such a class -/
structure ErC (K : PySem.W.Frag) (C : Addr) (T : List Value) (B newId : String) : Prop where
  cls : ∃ nm q N bs sn sub ab col dd k0 k1 k2 k3 k5, K.lookup C = some (excClassObj nm q C N bs T true sn sub ab col dd k0 k1 k2 k3 k5 newId)
  tl : Tail T B newId
  sa : PySem.W.findIn K (.ref C) "__setattr__" = some (some (.builtin "object.__setattr__"))
  kC : PySem.W.keepIn K (.ref C) = true
structure ErrC (K : PySem.W.Frag) (C : Addr) : Prop where
  ex : ∃ T B newId, ErC K C T B newId
theorem ErC.data {K : PySem.W.Frag} {C : Addr} {T : List Value} {B newId : String} (e : ErC K C T B newId) : ∃ cd, PySem.W.clsIn K C = some cd ∧ MroOk cd ∧ cd.hasDict = true := by
  obtain ⟨nm, q, N, bs, sn, sub, ab, col, dd, k0, k1, k2, k3, k5, hC⟩ := e.cls
  refine ⟨{ name := nm, bases := bs, mro := .ref C :: T, ns := N, qualname := q, hasDict := true, slotNames := sn, subclasses := sub, abstract := ab, collection := col, hasDel := false }, ?_, MroOk.of e.tl rfl, rfl⟩
  unfold PySem.W.clsIn
  rw [hC] <;> rfl
section
variable {X : Cx} {pins : List (Addr × Obj)} {σ : L2.St} {H : Hp} {s : Shared} {a C dx : Addr} {f : Str} {y : V} {u : Value} {fs : List (Str × V)} {Q : Unit → Shared → Prop} {E : Value → Shared → Prop} {A : Around}
theorem er_first (T : ErrC X.K C) (I : L2.Inv X pins σ H s) (e : H a = some (exo a C none)) (hno : PySem.W.findIn X.K (.ref C) f = some none) (ry : RelV y u)
    (done : ∀ dx s', H dx = none → dx ≠ a → L2.Inv X pins σ (L2.upd (L2.upd H dx (exd dx [(f, y)])) a (exo a C (some dx))) s' → Q () s') : wpAny (model X.prog X.w) A (setAttr (.ref a) f u) Q E s := by
  obtain ⟨T, B, newId, T⟩ := T.ex
  obtain ⟨cd, hcl, hm, hdct⟩ := T.data
  obtain ⟨t1, ho⟩ := exo_at I.hok e
  obtain ⟨hp, gs, dr, t, os⟩ := s
  refine PySem.W.set_plain I.kIn (ox := { cls := .ref C, dict := none, data := .fields #[.ref t1, .none, .none, .none, .bool false, .none] }) (od := none) ⟨ho, rfl, rfl, trivial⟩ T.sa ?_
  refine tl_set_new I.kIn ho hcl hm hdct hno (fun h' tk' dx kp dn dne hx hn => ?_)
  have hnd : H dx = none := I.hok.fresh dn
  have old : ∀ {b : Addr} {o : Obj}, hp.get? b = some o → b ≠ dx := fun {b o} q => Nat.ne_of_lt (Nat.lt_of_lt_of_le (Heap.lt_size q) dn)
  have nota : ∀ {b : Addr}, H b = none → b ≠ a := fun {b} n z => by
    rw [z, e] at n
    cases n
  have un : Un X.fs [] H (L2.upd (L2.upd H dx (exd dx [(f, y)])) a (exo a C (some dx))) hp h' := {
    keep := fun b o q n _ _ => kp b o (nota n) q
    slot := fun b o q n _ _ => ⟨o.slots, kp b o (nota n) q⟩
    free := fun b o q n _ => by
      rw [upd_ne (nota n), upd_ne (old q)]
      exact n
    there := fun b o q _ => by
      by_cases hb : b = a
      · subst hb
        exact ⟨_, hx⟩
      · exact ⟨o, kp b o hb q⟩
    tups := fun b xs q => by
      rw [upd_ne (at_ne e q exo_tup), upd_ne (ne_of_none q hnd)]
      exact q
    frzs := fun b o v q => by
      rw [upd_ne (at_ne e q exo_frz), upd_ne (ne_of_none q hnd)]
      exact q
    tbls := fun b ps q => ⟨#[], by
      rw [upd_ne (at_ne e q exo_tbl), upd_ne (ne_of_none q hnd), q]
      simp⟩ }
  refine done dx _ hnd dne (I.un (t' := tk') un fun b o q => ?_)
  by_cases hb : b = a
  · subst hb
    rw [upd_same] at q
    cases q
    exact exo_ok hx
  · rw [upd_ne hb] at q
    by_cases hd : b = dx
    · subst hd
      rw [upd_same] at q
      cases q
      exact exd_ok hn (relO_put (fs := []) ry fun g => True.intro)
    · rw [upd_ne hd] at q
      refine (I.hok b o q).stay (fun c v hc z => kp c v ?_ z) (fun c hc => ?_) fun c xs hc => ?_
      · rcases hc with hc | hc
        · rw [hc]
          exact hb
        · exact at_ne e hc exo_own
      · rw [upd_ne (at_ne e hc exo_own), upd_ne (ne_of_none hc hnd)]
        exact hc
      · rw [upd_ne (at_ne e hc exo_tup), upd_ne (ne_of_none hc hnd)]
        exact hc
theorem er_later (T : ErrC X.K C) (I : L2.Inv X pins σ H s) (e : H a = some (exo a C (some dx))) (ed : H dx = some (exd dx fs)) (hl : fs.length ≤ 900) (hno : PySem.W.findIn X.K (.ref C) f = some none) (ry : RelV y u)
    (done : ∀ s', L2.Inv X pins σ (L2.upd H dx (exd dx ((f, y) :: fs))) s' → Q () s') : wpAny (model X.prog X.w) A (setAttr (.ref a) f u) Q E s := by
  obtain ⟨T, B, newId, T⟩ := T.ex
  obtain ⟨cd, hcl, hm, hdct⟩ := T.data
  obtain ⟨t1, ho⟩ := exo_at I.hok e
  obtain ⟨mA, hns, rel⟩ := exd_at I.hok ed
  have hw := within_of rel
  obtain ⟨hp, gs, dr, t, os⟩ := s
  obtain ⟨oD, _, _, hoD, _, _⟩ := hns.count hw
  refine PySem.W.set_plain I.kIn (ox := { cls := .ref C, dict := some dx, data := .fields #[.ref t1, .none, .none, .none, .bool false, .none] }) (od := some oD) ⟨ho, rfl, rfl, hoD⟩ T.sa ?_
  refine tl_set_old I.kIn ho hns hw (by rw [List.length_map]; omega) hcl hm hdct hno (fun h' tk' kp hn => ?_)
  have hd : ∃ o, h'.get? dx = some o := let ⟨o, _, _, e', _⟩ := hn; ⟨o, e'⟩
  exact done _ (I.write (t' := tk') (x := dx) (e := dx) (o := exd dx ((f, y) :: fs)) (by rw [ed]; exact True.intro) (.inl rfl) kp hd (exd_ok hn (relO_put ry rel)))
end
/-- self.f = e on such an error -/
def tEst (K : PySem.W.Frag) (f : Str) (to te : TE) : TS := fun D σ H => te σ H fun y H1 => to σ H1 fun x H2 => ∃ a C : Addr, x = .ref a ∧ ErrC K C ∧ PySem.W.findIn K (.ref C) f = some none ∧
  ((H2 a = some (exo a C none) ∧ ∀ dx, H2 dx = none → dx ≠ a → D.nx σ (L2.upd (L2.upd H2 dx (exd dx [(f, y)])) a (exo a C (some dx)))) ∨
    ∃ (dx : Addr) (fs : List (Str × V)), H2 a = some (exo a C (some dx)) ∧ H2 dx = some (exd dx fs) ∧ fs.length ≤ 900 ∧ D.nx σ (L2.upd H2 dx (exd dx ((f, y) :: fs))))
section
variable {X : Cx} {o e : Expr} {es : List Expr} {to te : TE} {ta : TA} {f : Str} {p p' pos : Pos}
theorem ps_est (ho : PE X o to) (he : PE X e te) (hs : swapsWith e (some (.Attribute o f p')) pos.line X.env = pure false := by rfl) : PS X (.Assign [.Attribute o f p'] e pos) (tEst X.K f to te) := by
  refine ⟨fun pins s σ H D I h => ?_⟩
  refine plainObj_wpAny_Assign_Attribute (thn (he.run pins s σ H _ I h) fun v s1 ⟨y, H1, I1, r1, q1⟩ => thn (ho.run pins s1 σ H1 _ I1 q1) fun u s2 ⟨x, H2, I2, r2, a, C, ex, T, hno, q⟩ => ?_) hs
  subst ex
  obtain rfl : u = Value.ref a := r2
  rcases q with ⟨ea, q⟩ | ⟨dx, fs, ea, ed, hl, q⟩
  · exact er_first T I2 ea hno r1 fun dx s' n ne J => ⟨σ, _, J, q dx n ne⟩
  · exact er_later T I2 ea ed hl hno r1 fun s' J => ⟨σ, _, J, q⟩
/-- C(e, ..) as a value, C's own __init__ keeping sp -/
def tErr (C : Addr) (sp : Sp) (ta : TA) : TE := fun σ H Q => ta σ H fun vs H1 => vs.length ≤ 1000 ∧ ∀ a, H1 a = none → sp (.ref a :: vs) (L2.upd H1 a (exo a C none)) (fun v H2 => v = .non ∧ Q (.ref a) H2) E0
theorem pe_err {x : Str} {C fI : Addr} {k : Nat} {fd : FuncData} {ps : List Str} {sp : Sp} (T : ErrC X.K C) (iC : PySem.W.findIn X.K (.ref C) "__init__" = some (some (.ref fI))) (tI : PySem.W.typeIn X.K (.ref fI) = some (.type "function"))
    (F1 : FnOk X.prog X.w X.K X.mg X.base CX0 k fI fd ps sp) (hr : Room (k + 1) X.A) (hb : Binds X.K fd ps []) (hg : Gl X x) (hm : X.mg x = some (.ref C)) (ha : PA X (e :: es) ta)
    (hdb : (x == ("__debug__" : Str)) = false := by decide) (he : starEach (e :: es) X.env = (false, eval e X.env) :: starEach es X.env := by rfl) (hpl : (backTo pos (starEach es X.env)).any (·.1) = false := by rfl) :
    PE X (.Call (.Name x p) (e :: es) [] pos) (tErr C sp ta) := by
  refine ⟨fun pins s σ H Q I h => ?_⟩
  obtain ⟨T, B, newId, T⟩ := T.ex
  obtain ⟨nm, q, N, bs, sn, sub, ab, col, dd, k0, k1, k2, k3, k5, hC⟩ := T.cls
  refine wpAny_Call_Name_kw (ld_glob I hg hm ?_ hdb)
  refine PySem.W.callWith_K (h₀ := X.base) I.ok.mod.kin T.kC (thn (ha.run pos pins s σ H _ I h) fun us s1 ⟨vs, H1, I1, r1, hz, q1⟩ => ⟨I1.kIn, ?_⟩) he hpl
  show wpAny _ _ (call (.ref C) us) _ _ _
  obtain ⟨hp, gs, dr, tk, os⟩ := s1
  have hsz : hp.objs.size ≤ hp.objs.size + 1 := Nat.le_succ _
  have hn : H1 (hp.objs.size + 1) = none := I1.hok.fresh hsz
  have hq := q1 (hp.objs.size + 1) hn
  have kp : ∀ b o, hp.get? b = some o → ((hp.push (PySem.W.kdv_tup us)).push (PySem.HandSPX.excO C hp.objs.size)).get? b = some o := fun b o e => Heap.get?_push_of_some _ (Heap.get?_push_of_some _ e)
  have hget : ((hp.push (PySem.W.kdv_tup us)).push (PySem.HandSPX.excO C hp.objs.size)).get? (hp.objs.size + 1) = some (PySem.HandSPX.excO C hp.objs.size) := by heap_get
  have I2 : L2.Inv X pins σ (L2.upd H1 (hp.objs.size + 1) (exo (hp.objs.size + 1) C none)) ⟨(hp.push (PySem.W.kdv_tup us)).push (PySem.HandSPX.excO C hp.objs.size), gs, dr, tk, os⟩ :=
    I1.laid (t' := tk) (a := hp.objs.size + 1) (o := exo (hp.objs.size + 1) C none) (h' := (hp.push (PySem.W.kdv_tup us)).push (PySem.HandSPX.excO C hp.objs.size)) kp hsz (exo_ok hget)
  have r2 : Vals (V.ref (hp.objs.size + 1) :: vs) (Value.ref (hp.objs.size + 1) :: us) := .cons rfl r1
  have hl : (Value.ref (hp.objs.size + 1) :: us).length = ps.length := by
    have e := r2.length
    rw [F1.len _ _ _ _ hq] at e
    exact e.symm
  have hus : us.length ≤ sizeLine := by
    rw [← Paired.length r1, sizeLine_eq]
    omega
  have hbn := hb _ (Value.ref (hp.objs.size + 1) :: us) I2.kIn (by rw [List.append_nil]; exact hl)
  rw [List.append_nil] at hbn
  refine wpAny_call (tl_call T.tl (I1.kIn _ _ hC) (PySem.W.looks_findIn I1.kIn iC) (fun self => PySem.W.bind_fn I1.kIn self tI) hus ?_)
  refine codeAny_mono (F1.run _ X.stack _ _ ⟨Value.ref (hp.objs.size + 1) :: us, []⟩ (Value.ref (hp.objs.size + 1) :: us) _ _ (fun _ _ _ => False) (hr.make C us []) (I2.env0.make C us []) hbn r2 hq) fun r s' hq' => ?_
  cases r with
  | error er => exact pass0 pins σ _ _ er s' I2 hq'
  | ok fl =>
    cases fl with
    | ret u =>
      obtain ⟨v, H2, J, rv, ev, q2⟩ := I2.after hq'
      subst ev
      exact ⟨rv, .ref (hp.objs.size + 1), H2, J, rfl, q2⟩
    | next => exact False.elim hq'
    | brk => exact False.elim hq'
    | cont => exact False.elim hq'
/-- what a class must say so that fields of its errors are read, and isinstance is asked -/
structure ErA (K : PySem.W.Frag) (C : Addr) : Prop where
  xf : XfC K C
  is : ExcC K C
/-- e.f, e such an error -/
theorem pe_ef {C : Addr} {n : Str} (h : PE X e te) (hb : attributeBase e n X.env (eval e X.env) = eval e X.env := by rfl) :
    PE X (.Attribute e n pos) (fun σ H Q => te σ H fun x H1 => ∃ (a C dx : Addr) (fs : List (Str × V)) (v : V), x = .ref a ∧ ErA X.K C ∧ PySem.W.findIn X.K (.ref C) n = some none ∧ H1 a = some (exo a C (some dx)) ∧ H1 dx = some (exd dx fs) ∧ fs.lookup n = some v ∧ Q v H1) := by
  refine ⟨fun pins s σ H Q I hq => ?_⟩
  refine attr_of hb (thn (h.run pins s σ H _ I hq) fun u s1 hh => ?_)
  obtain ⟨x, H1, I1, rx, a, C, dx, fs, v, ex, T, hno, ea, ed, l, q⟩ := hh
  subst ex
  obtain rfl : u = Value.ref a := rx
  obtain ⟨t1, ho⟩ := exo_at I1.hok ea
  obtain ⟨mA, hns, hr⟩ := exd_at I1.hok ed
  obtain ⟨od, hod, hl⟩ := lookIn_ns hns
  obtain ⟨u, hu, ru⟩ := RelO.some_of (v := v) (o := mA n) (by rw [← l]; exact hr n)
  have J : PySem.W.InstAt s1.heap a { cls := .ref C, dict := some dx, data := .fields #[.ref t1, .none, .none, .none, .bool false, .none] } C (some od) := ⟨ho, rfl, rfl, hod⟩
  exact HandSPX.exc_get I1.kIn J T.xf.ga T.xf.gg T.xf.exC (PySem.W.findObj_own T.xf.hdC hno rfl (by rw [hl, hu])) (handed_of ru) ⟨v, H1, I1.tok _, ru, q⟩
/-- isinstance(e, c), e such an error -/
def rIsEr (K : PySem.W.Frag) : List V → Hp → VK → Prop := fun xs H Q => ∃ (a C : Addr) (d : Option Addr) (c : V) (cv : Value) (b : Bool), xs = [.ref a, c] ∧ ErA K C ∧ (∀ u, RelV c u → u = cv) ∧ H a = some (exo a C d) ∧ (∀ dx, d = some dx → ∃ fs, H dx = some (exd dx fs)) ∧ PySem.W.kitOne K (.ref C) cv = some b ∧ Q (.bl b) H
theorem call_isEr : CallR X (.builtin "isinstance") (rIsEr X.K) := by
  intro pins s σ H xs us Q I r h
  obtain ⟨a, C, d, c, cv, b, rfl, T, hcv, ea, hd, e, q⟩ := h
  match us, r with
  | [_, u2], .cons rfl (.cons rt .nil) =>
  obtain rfl : u2 = cv := hcv _ rt
  obtain ⟨t1, ho⟩ := exo_at I.hok ea
  have C' := T.is
  have hcl : (PySem.W.clsIn X.K C).isSome = true := by
    obtain ⟨cd, hc, _⟩ := PySem.W.any_some C'.hd
    rw [hc]
    rfl
  have fin : ∀ {od : Option Obj}, PySem.W.InstAt s.heap a { cls := .ref C, dict := d, data := .fields #[.ref t1, .none, .none, .none, .bool false, .none] } C od → wpAny (model X.prog X.w) X.A (call (.builtin "isinstance") [.ref a, u2]) (EP X pins σ Q) X.xe s := fun {od} J =>
    PySem.W.kia_one (PySem.W.kitx_exc hcl C'.hg C'.hk C'.hs C'.ha C'.hn C'.ht C'.hm) I.kIn J e (fun z => nomatch z) fun tk => ⟨.bl b, H, I.kept (t' := tk) fun _ _ z => z, rfl, q⟩
  cases d with
  | none => exact fin (od := none) ⟨ho, rfl, rfl, trivial⟩
  | some dx =>
    obtain ⟨fs, ed⟩ := hd dx rfl
    obtain ⟨mA, hns, hr⟩ := exd_at I.hok ed
    obtain ⟨od, hod, hl⟩ := lookIn_ns hns
    exact fin (od := some od) ⟨ho, rfl, rfl, hod⟩
end
end Ask
namespace Ask
open PySem L2 PySem.Spec PyProof.Rows LamX NdefX
/-! ### lambdas with parameters, kept as values -/
/-- the words of a lambda without captured names: its context is that of a def with an empty body -/
structure LF where
  qual : Str
  params : Arguments
  body : Expr
  scope : Scope
  c : Addr
abbrev LF.nf (F : LF) : NF := ⟨"<lambda>", F.qual, F.params, [], F.scope, [], F.c⟩
abbrev LF.fd (F : LF) (pm ctv : Value) : FuncData := PySem.W.kla_fn "<lambda>" F.qual F.params F.body F.scope [] pm (.ref F.c) ctv
/-- the object at f is this lambda -/
def LmO (f : Addr) (F : LF) : HO := .ext fun h => ∃ (od : Option Addr) (sl : Array (Option Value)) (pm ctv : Value), h.get? f = some (⟨.type "function", od, .func (F.fd pm ctv), sl⟩ : Obj)
theorem lmO_at {P : Program} {w : World} {H : Hp} {h : Heap} {f : Addr} {F : LF} (hok : HOk P w H h) (e : H f = some (LmO f F)) : ∃ (od : Option Addr) (sl : Array (Option Value)) (pm ctv : Value), h.get? f = some (⟨.type "function", od, .func (F.fd pm ctv), sl⟩ : Obj) := (hok f _ e).1
section
variable {X : Cx} {pins : List (Addr × Obj)} {σ : L2.St} {H : Hp} {s : Shared}
theorem inv_lam {F : LF} {o : Obj} {t' : Nat} {pm ctv : Value} (I : L2.Inv X pins σ H s) (ho : o = { cls := .type "function", data := .func (F.fd pm ctv) }) :
    L2.Inv X pins σ (L2.upd H s.heap.objs.size (LmO s.heap.objs.size F)) { s with heap := s.heap.push o, toks := t' } := by
  subst ho
  have e : (s.heap.push ({ cls := .type "function", data := .func (F.fd pm ctv) } : Obj)).get? s.heap.objs.size = some ({ cls := .type "function", data := .func (F.fd pm ctv) } : Obj) := Heap.get?_push_size _ rfl
  exact I.laid (a := s.heap.objs.size) (fun b u e => Heap.get?_push_of_some _ e) (Nat.le_refl _) ⟨⟨_, _, pm, ctv, e⟩, ⟨_, e⟩, fun h1 h2 ⟨od, sl, p, t, z⟩ st => ⟨od, sl, p, t, st _ z⟩⟩
/-- lambda ..: .., no name captured: a new function object; its code object is new, or stands in the table -/
theorem pe_lambda {T : List (Addr × Str)} {c P : Addr} {params : Arguments} {body : Expr} {scope : Scope} {pos : Pos} (TB : TabB X.base X.mg c P) (hcode : X.env.code = .ref c) (hm : (P, X.env.qual ++ "<lambda>") ∈ T) (hu : ∀ p ∈ T, p.1 = P → p.2 = X.env.qual ++ "<lambda>")
    (hdef : defaultsOf params X.env = ([], []) := by rfl) (hfree : ∀ y ∈ scope.names, y.2 ≠ .free) (hcl : cloFrom X.env.cells scope.names [] = [] := by rfl) :
    PE X (.Lambda params body scope pos) (fun _ H Q => Tabs T H ∧ ∀ (f c' : Addr) (H1 : Hp), ExtN H H1 → (∀ b, H1 b = none → H b = none) → Tabs T H1 → H f = none → H1 f = some (LmO f ⟨X.env.qual ++ "<lambda>", params, body, scope, c'⟩) → H1 c' = some (LamX.CodeO c' (X.env.qual ++ "<lambda>")) → Q (.ref f) H1) := by
  refine ⟨fun pins s σ H Q I q => ?_⟩
  obtain ⟨hT, q⟩ := q
  obtain ⟨ps, hP, ht, ha⟩ := hT _ hm
  refine PySem.W.kla_eval hdef ?_
  have bP : s.heap.BuiltinsAt X.mg P := TB.bm.keeps I.bk
  have hP' : s.heap.get? P = some { cls := .none, data := .fields ps } := I.hok P _ hP
  have clo := closure_ok (env := X.env) (scope := scope) fun y hy e => absurd e (hfree y hy)
  cases hc : codeAmong pos ps.toList with
  | none =>
    refine PySem.W.kla_makeFunction (mg := X.mg) (c := c) (P := P) (ps := ps) clo I.ok.glob (I.mod.glob.keeps I.bk) hcode (TB.code.keeps I.bk) hP' ht hc TB.gP bP fun c' ctv h' tk hx hge hlt hrec htb => ?_
    obtain ⟨c2, oc, vs, t, e2, hoc, hd, hv⟩ := hrec
    cases e2
    have nC : H c' = none := I.hok.fresh hge
    have I1 := inv_table (t' := tk) (more := #[rawInt pos.line, rawInt pos.col, .ref c']) (h' := h') I hP (fun b o hb e => hx b o hb e) htb hge ⟨oc, vs, t, hoc, hd, hv⟩
    have ext : ExtN H (L2.upd (L2.upd H P (.tbl (ps ++ #[rawInt pos.line, rawInt pos.col, .ref c']))) c' (LamX.CodeO c' (X.env.qual ++ "<lambda>"))) := fun b o e n => by
      rw [upd_ne (ne_of_none e nC), upd_ne (fun z => n ps (Option.some.inj (e.symm.trans (by rw [z]; exact hP))))]
      exact e
    have el : (ps ++ #[rawInt pos.line, rawInt pos.col, .ref c']).toList = ps.toList ++ [rawInt pos.line, rawInt pos.col, .ref c'] := by simp
    have T1 : Tabs T (L2.upd (L2.upd H P (.tbl (ps ++ #[rawInt pos.line, rawInt pos.col, .ref c']))) c' (LamX.CodeO c' (X.env.qual ++ "<lambda>"))) := fun p hp => by
      by_cases hb : p.1 = P
      · rw [hu p hp hb, hb]
        refine ⟨_, by rw [upd_ne (ne_of_none hP nC), upd_same], by rw [el]; exact PySem.TriplesOk_snoc _ _ _ _ ht, fun p' cv hcv => ?_⟩
        rw [el] at hcv
        cases among_app _ ht hcv with
        | inl z =>
          obtain ⟨c0, e1, e2⟩ := ha p' cv z
          exact ⟨c0, e1, ext _ _ e2 codeO_ne⟩
        | inr z => exact ⟨c', z, upd_same⟩
      · obtain ⟨ps', a1, a2, a3⟩ := hT p hp
        refine ⟨ps', by rw [upd_ne (ne_of_none a1 nC), upd_ne hb]; exact a1, a2, fun p' cv hcv => ?_⟩
        obtain ⟨c0, e1, e2⟩ := a3 p' cv hcv
        exact ⟨c0, e1, ext _ _ e2 codeO_ne⟩
    have nF := I1.hok.fresh (Nat.le_refl _)
    have I2 := inv_lam (F := ⟨X.env.qual ++ "<lambda>", params, body, scope, c'⟩) (t' := tk) (pm := (X.mg "__name__").getD .none) (ctv := ctv) I1 rfl
    rw [hcl]
    refine ⟨.ref h'.objs.size, _, I2, rfl, q _ c' _ (fun b o e n => ?_) (fun b e => upd_none (upd_none (upd_none e))) (T1.ext fun b o e => ?_) (I.hok.fresh (Nat.le_trans hge (Nat.le_of_lt hlt))) upd_same ?_⟩
    · have e1 := ext b o e n
      exact (upd_ne (ne_of_none e1 nF)).trans e1
    · exact (upd_ne (ne_of_none e nF)).trans e
    · exact (upd_ne (Nat.ne_of_lt hlt)).trans upd_same
  | some cv =>
    obtain ⟨c', e, hco⟩ := ha pos cv hc
    subst e
    refine PySem.W.kla_makeFunctionHit (mg := X.mg) (c := c) (P := P) (ps := ps) clo I.ok.glob (I.mod.glob.keeps I.bk) hcode (TB.code.keeps I.bk) hP' ht hc bP fun ctv h' tk hx hsz => ?_
    have I1 : L2.Inv X pins σ H { s with heap := h', toks := tk } := I.kept hx
    have nF : H h'.objs.size = none := I1.hok.fresh (Nat.le_refl _)
    have I2 := inv_lam (F := ⟨X.env.qual ++ "<lambda>", params, body, scope, c'⟩) (t' := tk) (pm := (X.mg "__name__").getD .none) (ctv := ctv) I1 rfl
    rw [hcl]
    refine ⟨.ref h'.objs.size, _, I2, rfl, q _ c' _ (fun b o e n => ?_) (fun b e => upd_none e) (hT.ext fun b o e => ?_) nF upd_same ?_⟩
    · exact (upd_ne (ne_of_none e nF)).trans e
    · exact (upd_ne (ne_of_none e nF)).trans e
    · exact (upd_ne (ne_of_none hco nF)).trans hco
end
/-! ### such a lambda, called -/
structure LOk (P : Program) (w : World) (K : PySem.W.Frag) (mg : Str → Option Value) (base : Heap) (k : Nat) (f : Addr) (F : LF) (ps : List Str) (sp : Sp) : Prop where
  len : ∀ vs H Q E, sp vs H Q E → vs.length = ps.length
  run : ∀ (A : Around) (outer : List Env) (s : Shared) (H : Hp) (us : List Value) (vs : List V) (Q : VK), Room k A → Env0 P w K mg base A outer s H → H f = some (LmO f F) → H F.c = some (LamX.CodeO F.c F.qual) → Vals vs us → sp vs H Q E0 →
    codeAny (model P w) A (.call (.ref f) ⟨us, []⟩) (CR CX0 outer P w H s Q E0) s
theorem lok_of {P : Program} {w : World} {K : PySem.W.Frag} {mg : Str → Option Value} {base : Heap} {N ps : List Str} {F : LF} {f : Addr} {k : Nat} {sp : Sp} (S : NScope N ps [] F.scope)
    (hb : ∀ (pm ctv : Value) (us : List Value), us.length = ps.length → bindArgs (F.fd pm ctv) ⟨us, []⟩ = pure (ps.zip us)) (len : ∀ vs H Q E, sp vs H Q E → vs.length = ps.length)
    (hbody : ∀ (A : Around) (outer : List Env) (s : Shared) (H : Hp) (vs : List V) (Q : VK), Room k (A.deeper (envF F.nf f s.heap.objs.size)) → sp vs H Q E0 →
      ∃ t, PE (ncx CX0 P w K mg base N F.nf f A outer s H E0) F.body t ∧ t (startF N vs []) H Q) : LOk P w K mg base (k + 1) f F ps sp := by
  refine ⟨len, fun A outer s H us vs Q hr e0 hf hc r hsp => ?_⟩
  have hl := len _ _ _ _ hsp
  have lim : s.heap.NoLimit := e0.mod.nolimit.keeps fun b o e => (e0.bs b o e).1
  obtain ⟨od, sl, pm, ctv, ho⟩ := lmO_at e0.hok hf
  refine PySem.W.kla_callFunE hr.depth ho rfl S.co S.gen rfl (codeO_at e0.hok hc) ?_
  rw [hb pm ctv us (r.length.symm.trans hl)]
  refine wpAny_pure (wpAny_newFunctionEnv S.nocell (fun ⟨n, _⟩ hy => S.par n (List.of_mem_zip hy).1) (fun h₁ hns hsb => ⟨lim.fresh _ hsb, ?_⟩) S.kind)
  show codeAny _ _ (.expr F.body (envF F.nf f s.heap.objs.size)) _ _
  have kp : ∀ b o, s.heap.get? b = some o → h₁.get? b = some o := fun b o e => hsb.extBut b o (Nat.ne_of_lt (Heap.lt_size e)) (Heap.get?_push_of_some _ e)
  obtain ⟨t, ht, hq⟩ := hbody A outer s H vs Q (hr.deeper _) hsp
  have C : CellsAt F.nf.cl [] [] s.heap H := ⟨rfl, fun y c e => (nomatch e), fun x y c e => (nomatch e), fun i y e => by simp at e⟩
  have I : L2.Inv (ncx CX0 P w K mg base N F.nf f A outer s H E0) [] (startF N vs []) H { s with heap := h₁, toks := s.toks + (ps.zip us).length } := inv_startN S hr.hd e0 hl r C hns kp
  refine PySem.W.kla_codeExpr (wpAny_mono (ht.run [] _ (startF N vs []) H _ I hq) (fun v s' hs => ?_) fun e s' hs => hs)
  obtain ⟨w', H', J, rv, q⟩ := hs
  exact ⟨w', H', J.os, J.bare, J.base, J.hok, rv, q⟩
/-- g(e), g a name that holds some such lambda -/
theorem pe_callLm {X : Cx} {k i : Nat} {x : Str} {t : TA} {e : Expr} {es : List Expr} {p pos : Pos} (hr : Room k X.A) (hN : X.N[i]? = some x) (hv : Vis X.env.scope x) (ha : PA X (e :: es) t) (hd : (x == ("__debug__" : Str)) = false := by decide) (hcd : (x == ("__classdict__" : Str)) = false := by decide)
    (he : starEach (e :: es) X.env = (false, eval e X.env) :: starEach es X.env := by rfl) (hpl : (backTo pos (starEach es X.env)).any (·.1) = false := by rfl) :
    PE X (.Call (.Name x p) (e :: es) [] pos) (fun σ H Q => ∃ (f : Addr) (F : LF) (ps : List Str) (sp : Sp), σ[i]? = some (some (.ref f)) ∧ LOk X.prog X.w X.K X.mg X.base k f F ps sp ∧ H f = some (LmO f F) ∧
      t σ H fun vs H1 => H1 f = some (LmO f F) ∧ H1 F.c = some (LamX.CodeO F.c F.qual) ∧ sp vs H1 Q E0) := by
  refine ⟨fun pins s σ H Q I h => ?_⟩
  obtain ⟨f, F, ps, sp, hs, L, hf, ht⟩ := h
  refine wpAny_Call_Name_kw (thn ((pe_var (pos := p) hN hv hd hcd).run pins s σ H (fun v H1 => v = .ref f ∧ H1 = H) I ⟨.ref f, hs, rfl, rfl⟩) fun u s1 ⟨v, H1, I1, r1, q1⟩ => ?_)
  obtain ⟨ev, eH⟩ := q1
  subst ev
  rw [eH] at I1
  obtain rfl : u = Value.ref f := r1
  have fnAt : ∀ {H2 : Hp} {s2 : Shared}, L2.Inv X pins σ H2 s2 → H2 f = some (LmO f F) → PySem.W.FnAt f s2.heap := fun J e => by
    obtain ⟨od, sl, pm, ctv, ho⟩ := lmO_at J.hok e
    exact ⟨_, od, _, sl, ho⟩
  refine PySem.W.callWith_F (first := []) (fnAt I1 hf) (thn (ha.run pos pins s1 σ H _ I1 ht) fun us s2 ⟨vs, H2, I2, r, h1, h2, q⟩ => ⟨fnAt I2 h1, ?_⟩) he hpl
  show wpAny _ _ (call (.ref f) us) _ _ _
  refine wpAny_call (codeAny_mono (L.run X.A X.stack s2 H2 us vs Q hr I2.env0 h1 h2 r q) fun r s' hq => ?_)
  cases r with
  | error er => exact pass0 pins σ H2 s2 er s' I2 hq
  | ok fl =>
    cases fl with
    | ret u => exact I2.after hq
    | next => exact False.elim hq
    | brk => exact False.elim hq
    | cont => exact False.elim hq
end Ask
namespace Ask
open PySem L2 PySem.Spec PyProof.Rows PySem.AskX
/-! ### C(), C an own error class without an __init__ of its own -/
theorem pe_err0 {X : Cx} {C : Addr} {bmB : List Value} {B newId initId : String} {x : Str} {p pos : Pos} (F : ExcBaseFacts B newId initId bmB) (q : PySem.W.excIn X.K C bmB newId = true) (gC : X.mg x = some (.ref C)) (kC : PySem.W.keepIn X.K (.ref C) = true) (hg : Gl X x) (hdb : (x == ("__debug__" : Str)) = false := by decide) :
    PE X (.Call (.Name x p) [] [] pos) (fun _ H Q => ∀ a, H a = none → Q (.ref a) (L2.upd H a (exo a C none))) := by
  refine ⟨fun pins s σ H Q I h => ?_⟩
  refine wpAny_Call_Name_kw (ld_glob I hg gC ?_ hdb)
  refine PySem.W.callWith_K0 I.kIn kC ?_
  obtain ⟨bm, N, nm, qn, bs, hdct, sn, sub, ab, col, dd, k0, k1, k2, k3, k5, mN, hC, hN, hni, T⟩ := exc_obj I.kIn q
  refine wpAny_call_exc_subT F T hC hN hni (fun h' a hm => ?_) (Nat.zero_le _)
  have hn : H a = none := I.hok.gone hm.new
  obtain ⟨t, ht, _, _⟩ := hm.there
  exact ⟨.ref a, L2.upd H a (exo a C none), I.laidN hm.keeps hm.new hn (exo_ok ht), rfl, h a hn⟩
/-! ### repr of a list, where some items may be dicts -/
/-- an item: data without a dict, an empty dict, a dict of a text to a number -/
inductive Dx (K : PySem.W.Frag) (H : Hp) : V → PyData → Prop
  | dp {v d} (h : Dp K H v d) (hd : d.hasDict = false) : Dx K H v d
  | d0 {a} (h : H a = some (.dK [])) : Dx K H (.ref a) (.dict [])
  | d1 {a} {z : Str} {i : Int} (h : H a = some (.dK [(.inr z, .int i)])) : Dx K H (.ref a) (.dict [(.str z, .int i)])
theorem Dx.reads {X : Cx} {pins : List (Addr × Obj)} {σ : L2.St} {H : Hp} {s : Shared} (I : L2.Inv X pins σ H s) {v : V} {d : PyData} {u : Value} (h : Dx X.K H v d) (r : RelV v u) : ∃ as, Reads s.heap u d as ∧ (d.hasDict = true → sysModules ∉ as) := by
  cases h with
  | dp h hd =>
    obtain ⟨as, q⟩ := Dp.reads I d v u h r
    exact ⟨as, q, fun e => by rw [hd] at e; cases e⟩
  | @d0 a h =>
    obtain rfl : u = Value.ref a := r
    obtain ⟨_, hs, vs, rel, o, es, ep, ho, hx, hdat, hk, hp, nd⟩ := dk_of I.hok h
    cases rel
    have e0 : es.toList = [] := by
      cases q : es.toList with
      | nil => rfl
      | cons y z => rw [q] at hp; cases hp
    refine ⟨[a] ++ [], .dict ho hx.1 hdat (as := []) (bs := []) ?_ ?_, fun _ hm => ?_⟩
    · rw [e0]; exact .nil
    · rw [e0]; exact .nil
    · rw [List.append_nil] at hm
      exact absurd (List.mem_singleton.mp hm) (fun e => by rw [← e] at hs; simp at hs)
  | @d1 a z i h =>
    obtain rfl : u = Value.ref a := r
    obtain ⟨_, hs, vs, rel, o, es, ep, ho, hx, hdat, hk, hp, nd⟩ := dk_of I.hok h
    cases rel with
    | @cons p q ps qs h1 h2 =>
      cases h2
      obtain ⟨e1, e2⟩ := h1
      obtain ⟨k, w⟩ := q
      obtain ⟨t2, e2⟩ := e2
      have e1 : Sum.inr z = k := e1
      subst e1
      have e2 : w = Value.int i t2 := e2
      subst e2
      cases q : es.toList with
      | nil => rw [q] at hp; cases hp
      | cons y r =>
        rw [q] at hp
        cases hp with
        | cons c1 c2 c3 =>
          cases c3
          have ky : ∃ t, y.key = .str z t := by
            have c0 : keyIs (.inr z) y.key = true := c1
            rcases keyIs_shape c0 with ⟨_, _, e, _⟩ | ⟨x, t, e1, e2⟩
            · cases e
            · cases e1; exact ⟨t, e2⟩
          obtain ⟨t1, ek⟩ := ky
          have ev : y.val = .int i t2 := c2
          refine ⟨(a :: []) ++ [], .dict ho hx.1 hdat (as := [] ++ []) (bs := [] ++ []) ?_ ?_, fun _ hm => ?_⟩
          · rw [q]
            show ReadsAll s.heap [y.key] [.str z] _
            rw [ek]
            exact .cons (.str _ _) .nil
          · rw [q]
            show ReadsAll s.heap [y.val] [.int i] _
            rw [ev]
            exact .cons (.int _ _) .nil
          · rw [List.append_nil] at hm
            exact absurd (List.mem_singleton.mp hm) (fun e => by rw [← e] at hs; simp at hs)
end Ask
namespace Ask
open PySem L2 PySem.Spec PyProof.Rows PySem.AskX
inductive DxAll (K : PySem.W.Frag) (H : Hp) : List V → List PyData → Prop
  | nil : DxAll K H [] []
  | cons {v vs d ds} (h : Dx K H v d) (t : DxAll K H vs ds) : DxAll K H (v :: vs) (d :: ds)
def shortAll (ds : List PyData) : Prop := ∀ d ∈ ds, d.showable = true ∧ d.depth ≤ 20 ∧ d.shown.length ≤ 1000
theorem reprAll_dx {X : Cx} {pins : List (Addr × Obj)} {σ : L2.St} {H : Hp} {s : Shared} (I : L2.Inv X pins σ H s) : ∀ {vs : List V} {ds : List PyData} {us : List Value}, DxAll X.K H vs ds → Vals vs us → shortAll ds →
    ∃ bs, (∃ as, ReadsAll s.heap us ds as) ∧ ReadAtMost s.heap (PyData.depthAll ds) bs ∧ ReprAllK X.prog X.w bs s.heap (PyData.depthAll ds) us (PyData.shownAll ds) ∧ PyData.depthAll ds ≤ 20
  | _, _, _, .nil, .nil, _ => ⟨[], ⟨_, .nil⟩, fun _ h => (by cases h), by simp only [PyData.shownAll]; exact .nil, by simp only [PyData.depthAll]; decide⟩
  | _, _, _, .cons (d := d) (ds := ds) h t, .cons r rs, hs => by
    obtain ⟨b2, ⟨a2, e2⟩, hb2, k2, l2⟩ := reprAll_dx I t rs (fun d m => hs d (List.mem_cons_of_mem _ m))
    obtain ⟨a1, e1, hm⟩ := h.reads I r
    obtain ⟨s1, s2, s3⟩ := hs d (List.mem_cons_self ..)
    obtain ⟨b1, hb1, k1⟩ := ReprK.of_reads (prog := X.prog) (w := X.w) e1 s1 hm (Nat.le_trans s3 (by decide))
    refine ⟨b1 ++ b2, ⟨_, .cons e1 e2⟩, ?_, ?_, ?_⟩
    · simp only [PyData.depthAll]
      intro b hmb
      rcases List.mem_append.mp hmb with hmb | hmb
      · obtain ⟨d', as', r', hd'⟩ := hb1 b hmb
        exact ⟨d', as', r', Nat.le_trans hd' (Nat.le_max_left _ _)⟩
      · obtain ⟨d', as', r', hd'⟩ := hb2 b hmb
        exact ⟨d', as', r', Nat.le_trans hd' (Nat.le_max_right _ _)⟩
    · simp only [PyData.depthAll, PyData.shownAll]
      exact .cons ((k1.more fun b hb => List.mem_append_left _ hb).level_le (Nat.le_max_left _ _)) (k2.more_le (fun b hb => List.mem_append_right _ hb) (Nat.le_max_right _ _))
    · simp only [PyData.depthAll]
      exact Nat.max_le.mpr ⟨s2, l2⟩
/-- repr of a list whose items may be dicts, where no guard stands -/
theorem call_repr_dx {X : Cx} (hg : X.A.guards = some []) (hu : X.A.units + 30 < cLine) : CallR X (.builtin "repr") (fun xs H Q => ∃ a vs ds, xs = [.ref a] ∧ H a = some (.lst vs) ∧ DxAll X.K H vs ds ∧ shortAll ds ∧ (listText (PyData.shownAll ds)).length ≤ 100000 ∧ Q (.str (listText (PyData.shownAll ds))) H) := by
  intro pins s σ H xs us Q I r h
  obtain ⟨a, vs, ds, rfl, ha, hd, hs, hz, q⟩ := h
  obtain ⟨u, rfl, ru⟩ := vals1 r
  cases ru
  have ok := I.hok a _ ha
  obtain ⟨hsz, its, n, rv, ho⟩ := ok
  obtain ⟨bs, ⟨as, rd⟩, hb, hk, hl⟩ := reprAll_dx I hd rv hs
  have rr : Reads s.heap (.ref a) (.list ds) _ := .list ho rfl rfl rd
  have hna : a ∉ bs := not_mem_of_deeper rr (by simp only [PyData.depth]; omega) hb
  have F := F.slot_list_repr
  refine call_repr_slot (T := "list") (idr := "list.__repr__") (by omega) ⟨_, ho, rfl⟩ F.toG ?_
  cases its with
  | nil =>
    cases rd
    exact call_list_repr_empty ⟨_, ho, rfl⟩ ho rfl ⟨_, _, rfl, .str _, H, I.tok _, ⟨_, rfl⟩, by simpa only [PyData.shownAll, listText_nil] using q⟩
  | cons x l =>
    exact call_list_reprK (d := PyData.depthAll ds) ho rfl rfl hna (by simpa using hk.length_eq) (fun i y e => hk.item i y (by simpa using e)) (A := X.A.in1) hg (fun b _ => Clear.nil b) (by show X.A.units + 1 + (PyData.depthAll ds + 1) < cLine; omega) (fun _ _ e => e) (fun h' t tk hk => ⟨_, _, rfl, .str (listText (PyData.shownAll ds)), H, I.kept (t' := tk) hk, ⟨_, rfl⟩, q⟩) (Nat.le_trans hz (by decide))
end Ask
namespace Ask
open PySem L2 PySem.Spec PyProof.Rows
/-! ### a law whose own def prints lists: it is entered from the caller of the claim, where no guard stands -/
section
variable {P : Program} {w : World} {K : PySem.W.Frag} {mg mb : Str → Option Value} {a : Addr} {s₁ : Shared} {vs : List Value} {ns : List Int}
/-- only the script is told of -/
structure OnlyA (K : PySem.W.Frag) (a : Addr) (H : Hp) : Prop where
  at_ : ∀ b, H b ≠ none → b = a
  out : H a ≠ none → K.lookup a = none
  frz : ∀ b, H b = none ∨ ∃ o xs, H b = some (.frz o (.lst xs))
theorem env_at {H : Hp} (oa : OnlyA K a H) (KX : K.In s₁.heap) (g1 : s₁.heap.Ns mainGlobals mg) (g2 : s₁.heap.Ns builtinsNs mb) (g3 : ∀ x : Str, x ≠ "__name__" → mb x = bootBuiltins x) (g4 : s₁.heap.NoLimit) (g5 : s₁.gens = #[])
    (ha : s₁.heap.get? a = some { cls := .type "list", data := .seq vs.toArray }) (hok : HOk P w H s₁.heap) :
    K.In (hidT s₁.heap H) ∧ (hidT s₁.heap H).Ns mainGlobals mg ∧ Env0 P w K mg (hidT s₁.heap H) callerA [] s₁ H := by
  have free : ∀ {b : Addr}, b ≠ a → H b = none := fun {b} n => Classical.byContradiction fun q => n (oa.at_ b q)
  have dict : ∀ {b : Addr} {o : Obj} {es : Array DictEntry} {ep : Nat}, s₁.heap.get? b = some o → o.data = .dict es ep → H b = none := by
    intro b o es ep e d
    refine free fun q => ?_
    rw [q, ha] at e
    have e := Option.some.inj e
    subst e
    exact nomatch (show Data.seq vs.toArray _ = Data.dict es ep from d)
  have ns : ∀ {b : Addr} {m : Str → Option Value}, s₁.heap.Ns b m → (hidT s₁.heap H).Ns b m := by
    rintro b m ⟨o, es, ep, e, d, r⟩
    exact ⟨o, es, ep, hidT_get e (dict e d), d, r⟩
  have kin : K.In (hidT s₁.heap H) := by
    intro b o e
    refine hidT_get (KX b o e) (Classical.byContradiction fun q => ?_)
    have eb := oa.at_ b q
    rw [eb] at q e
    rw [oa.out q] at e
    cases e
  obtain ⟨mc, l1, l2⟩ := g4
  have M : Mod K mg (hidT s₁.heap H) := ⟨kin, ns g1, ⟨mb, ns g2, g3⟩, ⟨mc, ns l1, l2⟩⟩
  refine ⟨kin, ns g1, ⟨rfl, M, fun b o e => of_hidT e, Nat.le_of_eq (hidT_size _ _), trivial, ?_, hok, .of_eq g5⟩⟩
  intro b hb
  have : b ∈ ([] : List Addr) := hb
  cases this
/-- the law's def, entered there; its body may use that no guard stands -/
theorem enter_g {k : Nat} {f : Addr} {x qual : Str} {st : Stmt} {fd : FuncData} {N ps : List Str} {base : Heap} {H : Hp} {us : List Value} {xs : List V} {Q : VK} (F : Fun K x qual st f fd) (S : FnScope N ps (defScope st)) (hr : Room (k + 1) callerA)
    (e0 : Env0 P w K mg base callerA [] s₁ H) (hb : BindsTo s₁ fd ⟨us, []⟩ (ps.zip us)) (rv : Vals xs us) (hl : xs.length = ps.length)
    (body : ∀ cdv : Value, Room k (callerA.deeper (envOfC qual (defScope st) s₁.heap.objs.size f cdv)) → (callerA.deeper (envOfC qual (defScope st) s₁.heap.objs.size f cdv)).guards = some [] →
      ∃ t, PSs (cxOf CX0 P w K mg base N qual (defScope st) f cdv callerA [] s₁ H fun _ _ _ => False).nox (defBody st) t ∧ t { nx := fun _ H' => Q .non H', rt := Q } (start N xs) H) :
    codeAny (model P w) callerA (.call (.ref f) ⟨us, []⟩) (CR CX0 [] P w H s₁ Q fun _ _ _ => False) s₁ := by
  obtain ⟨oc, od, kV, doc, pm, an, cdv, ct, osl, rfl, lk, hcd⟩ := F.ex
  have keep : ∀ b o, base.get? b = some o → s₁.heap.get? b = some o := fun b o e => (e0.bs b o e).1
  have KX : K.In s₁.heap := e0.mod.kin.keeps keep
  have lim : s₁.heap.NoLimit := e0.mod.nolimit.keeps keep
  have kinds : ∀ y ∈ ps.zip us, (defScope st).names.lookup y.1 = some .local ∨ ((defScope st).names.lookup y.1 = some .cell ∧ ((cellsFrom (s₁.heap.objs.size + 1) (defScope st).names []).lookup y.1).isSome = true) := by
    rintro ⟨n, v⟩ hy
    cases S.par n (List.of_mem_zip hy).1 with
    | inl q => exact .inl q
    | inr q => exact .inr ⟨q, PySem.W.cellsFrom_some _ _ _ (.inl q)⟩
  refine codeAny_call_function hr.depth (KX _ _ lk) rfl S.co S.gen rfl (PySem.W.codeRec_of KX hcd) (hb _ _ _ _ (wpAny_newFunctionEnv_cells S.kind kinds fun env he s2 q => ?_))
  subst he
  obtain ⟨t, ht, hq⟩ := body cdv (hr.deeper _) rfl
  have I := inv_start (CX := CX0) (E := fun _ _ _ => False) S hr.hd e0 hl rv q
  refine ⟨lim.keeps q.toInCall.keep, codeAny_func (wpAny_mono (ht.nox.run [] s2 (start N xs) H _ I hq) (fun fl s' hs => ?_) fun _ _ z => z)⟩
  cases fl with
  | ret u => obtain ⟨v, σ', H', J, r, q⟩ := hs; exact ⟨v, H', J.os, J.bare, J.base, J.hok, r, q⟩
  | next => obtain ⟨σ', H', J, q⟩ := hs; exact ⟨.non, H', J.os, J.bare, J.base, J.hok, rfl, q⟩
  | brk => obtain ⟨_, _, _, q⟩ := hs; exact q.elim
  | cont => obtain ⟨_, _, _, q⟩ := hs; exact q.elim
end
/-- the end of such a law: B tells the body for every base -/
theorem walk_g {l : PySem.W.OpenLaw} {n k : Nat} {q : Program} {loose : List Str} {XP : (Str → Option Value) → Heap → Prop} {YP : World → Heap → Prop} {d : DefRec} {K : Params → PySem.W.Frag} {x qual : Str} {st : Stmt} {N : List Str} (hn : l.most = some n) (hn2 : n ≤ sizeLine) (hdf : d.params.defaults = []) (hr : Room (k + 1) callerA)
    (hY : ∀ (w : World) (h : Heap), YP w h → (K w.params).In h) (S : FnScope N [x] (defScope st))
    (F : ∀ (w : World) (mg : Str → Option Value) (fa : Addr) (h : Heap), (K w.params).In h → h.Ns mainGlobals mg → mg d.name = some (.ref fa) →
      ∃ fd : FuncData, Fun (K w.params) qual qual st fa fd ∧ (∀ (s : Shared) (u : Value), BindsTo s fd ⟨[u], []⟩ [(x, u)]) ∧
        ∀ (base : Heap) (s₁ : Shared) (H : Hp) (a : Addr) (ns : List Int) (cdv : Value), (K w.params).In base → base.Ns mainGlobals mg → SqL (K w.params) H a (ns.map V.int) → ns.length ≤ n →
          Room k (callerA.deeper (envOfC qual (defScope st) s₁.heap.objs.size fa cdv)) → (callerA.deeper (envOfC qual (defScope st) s₁.heap.objs.size fa cdv)).guards = some [] →
          ∃ t, PSs (cxOf CX0 l.prog w (K w.params) mg base N qual (defScope st) fa cdv callerA [] s₁ H fun _ _ _ => False).nox (defBody st) t ∧ t { nx := fun _ _ => V.non = V.bl true, rt := fun v _ => v = .bl true } (start N [.ref a]) H) :
    PySem.W.WalkO q loose XP YP l.row.toRowW d [] (fun f vs => PySem.call f vs) := by
  refine Att.attach_call hn hdf fun w s₀ s₁ mg mb fa o pm cd doc a vs ns G Y _ _ _ hmg hobj hints hlen hg => ?_
  have KX := hY w _ Y
  obtain ⟨fd, Fd, hb, body⟩ := F w mg fa _ KX G.T.g hmg
  have rv := vals_ints hints
  have lenV := hints.length
  have main : ∀ H : Hp, OnlyA (K w.params) a H → SqL (K w.params) H a (ns.map V.int) → HOk l.prog w H s₁.heap →
      codeAny (model l.prog w) callerA (.call (.ref fa) ⟨[.ref a], []⟩) (fun r s' => r = .ok (.ret (.bool true)) ∧ OldK s₁.heap s'.heap ∧ s'.os = s₁.os ∧ AllBare s'.gens) s₁ := by
    intro H oa hS hok
    obtain ⟨kin, gl, e0⟩ := env_at oa KX G.T.g G.T.b G.T.builtins G.T.nolimit hg hobj hok
    refine codeAny_mono (enter_g (xs := [.ref a]) Fd S hr e0 (hb s₁ (.ref a)) (.cons rfl .nil) rfl (Q := fun v _ => v = .bl true) fun cdv h1 h2 => body _ s₁ H a ns cdv kin gl hS hlen h1 h2) fun r s' h => ?_
    cases r with
    | error e => exact h.elim
    | ok fl =>
      cases fl with
      | ret u =>
        obtain ⟨v, H', os, bare, un, hok', r', rfl⟩ := h
        obtain rfl : u = Value.bool true := r'
        refine ⟨rfl, OldK.of_keep fun b o e => ?_, os, bare⟩
        cases z : H b with
        | none => exact un.keep b o e z (by intro q; have : b ∈ ([] : List Addr) := q; cases this) (by simp)
        | some u =>
          rcases oa.frz b with z2 | ⟨ob, xs, z2⟩
          · rw [z2] at z; cases z
          · have t1 := (hok b _ z2).1
            have t2 := (hok' b _ (un.frzs b ob _ z2)).1
            rw [e] at t1
            rw [t2, t1]
      | next => exact False.elim h
      | brk => exact False.elim h
      | cont => exact False.elim h
  have hsz : (ns.map V.int).length ≤ sizeLine := by rw [List.length_map]; exact Nat.le_trans hlen hn2
  cases hk : (K w.params).lookup a with
  | some o =>
    have e := KX a o hk
    rw [hobj] at e
    cases e
    refine main (fun _ => none) ⟨fun _ z => absurd rfl z, fun z => absurd rfl z, fun _ => .inl rfl⟩ (.inr ⟨_, vs.toArray, _, hk, rfl, rfl, rfl, ?_, by simpa using rv⟩) fun b u z => nomatch (show (none : Option HO) = some u from z)
    rw [List.size_toArray, lenV]; exact Nat.le_trans hlen hn2
  | none =>
    have hit : (fun b => if b = a then some (HO.frz { cls := .type "list", data := .seq vs.toArray } (.lst (ns.map V.int))) else none) a = some (HO.frz { cls := .type "list", data := .seq vs.toArray } (.lst (ns.map V.int))) := if_pos rfl
    refine main (fun b => if b = a then some (.frz { cls := .type "list", data := .seq vs.toArray } (.lst (ns.map V.int))) else none) ⟨fun b z => ?_, fun _ => hk, fun b => ?_⟩ (.inl (.inr ⟨_, hit⟩)) fun b u z => ?_
    · exact Classical.byContradiction fun q => z (if_neg q)
    · by_cases q : b = a
      · exact .inr ⟨_, _, if_pos q⟩
      · exact .inl (if_neg q)
    · by_cases q : b = a
      · subst q
        have z' := hit.symm.trans z
        cases z'
        exact ⟨hobj, hsz, vs, _, rv, hobj⟩
      · have z' := (if_neg q).symm.trans z
        cases z'
section
variable {X : Cx}
/-- repr of data, where no guard stands -/
theorem call_repr_data (hg : X.A.guards = some []) (hu : X.A.units + 30 < cLine) : CallR X (.builtin "repr") (fun xs H Q => ∃ v d, xs = [v] ∧ Dp X.K H v d ∧ d.showable = true ∧ d.hasDict = false ∧ d.depth ≤ 20 ∧ d.shown.length ≤ 100000 ∧ Q (.str d.shown) H) := by
  intro pins s σ H xs us Q I r h
  obtain ⟨v, d, rfl, hd, h1, h2, h3, h4, q⟩ := h
  obtain ⟨u, rfl, ru⟩ := vals1 r
  obtain ⟨as, rd⟩ := Dp.reads I d v u hd ru
  have hz : d.shown.length ≤ sizeLine := Nat.le_trans h4 (by decide)
  cases v with
  | ref a =>
    cases ru
    exact repr_of_reads' rd h1 (fun e => by rw [h2] at e; cases e) hg (by omega) (fun _ _ e => e) (fun h' t tk hk => ⟨.str d.shown, H, I.kept (t' := tk) hk, ⟨_, rfl⟩, q⟩) hz
  | non =>
    cases hd
    obtain rfl : u = Value.none := ru
    exact PySem.P.repr_of_none ⟨.str _, H, I.tok _, ⟨_, rfl⟩, by simpa only [PyData.shown] using q⟩
  | bl b =>
    cases hd
    obtain rfl : u = Value.bool b := ru
    refine PySem.P.repr_of_bool ?_
    have q2 : Q (.str (if b = true then ("True" : String) else ("False" : String))) H := by
      have := q
      simp only [PyData.shown] at this
      cases b <;> exact this
    exact ⟨.str _, H, I.tok _, ⟨_, rfl⟩, q2⟩
  | int i =>
    cases hd
    obtain ⟨t, rfl⟩ := ru
    exact PySem.P.repr_of_int (of_decide_eq_true (by simpa only [PyData.showable] using h1)) ⟨.str _, H, I.tok _, ⟨_, rfl⟩, by simpa only [PyData.shown] using q⟩
  | str x =>
    cases hd
    obtain ⟨t, rfl⟩ := ru
    have hz2 : (reprText x).length ≤ sizeLine := by simpa only [PyData.shown] using hz
    exact PySem.P.repr_of_str (hsz := hz2) ⟨.str _, H, I.tok _, ⟨_, rfl⟩, by simpa only [PyData.shown] using q⟩
  | byt _ => cases hd
  | flt _ => cases hd
  | ty _ => cases hd
end
end Ask
namespace Ask
open PySem L2 PySem.Spec PyProof.Rows LamX
/-! ### the end of a law whose own def prints lists, and whose helpers make lambdas: tabs are the code objects with their tables -/
section
variable {P : Program} {w : World} {K : PySem.W.Frag} {mg mb : Str → Option Value} {a : Addr} {s₁ : Shared} {vs : List Value} {ns : List Int} {tabs : List (Addr × Addr)}
abbrev isTabOf (tabs : List (Addr × Addr)) (b : Addr) : Prop := ∃ q ∈ tabs, q.2 = b
abbrev emptyTab : Obj := { cls := .none, data := .fields #[] }
structure OnlyT (K : PySem.W.Frag) (a : Addr) (tabs : List (Addr × Addr)) (H : Hp) : Prop where
  at_ : ∀ b, H b ≠ none → b = a ∨ isTabOf tabs b
  out : H a ≠ none → K.lookup a = none
  tb : ∀ q ∈ tabs, H q.2 = some (.tbl #[])
  frz : ∀ b, H b = none ∨ isTabOf tabs b ∨ ∃ o xs, H b = some (.frz o (.lst xs))
structure TabsIn (K : PySem.W.Frag) (h : Heap) (tabs : List (Addr × Addr)) : Prop where
  at_ : ∀ q ∈ tabs, h.get? q.2 = some emptyTab
  out : ∀ q ∈ tabs, K.lookup q.2 = none
  hd : ∀ q ∈ tabs, PySem.W.CodeHd h q.1 q.2
theorem envT_at {H : Hp} (oa : OnlyT K a tabs H) (TI : TabsIn K s₁.heap tabs) (KX : K.In s₁.heap) (g1 : s₁.heap.Ns mainGlobals mg) (g2 : s₁.heap.Ns builtinsNs mb) (g3 : ∀ x : Str, x ≠ "__name__" → mb x = bootBuiltins x) (g4 : s₁.heap.NoLimit) (g5 : s₁.gens = #[])
    (g6 : ∃ (m : Addr) (o : Obj), mg "__builtins__" = some (.ref m) ∧ m ≠ builtinsNs ∧ s₁.heap.get? m = some o ∧ o.cls = .type "module" ∧ o.dict = some builtinsNs ∧ o.data = .plain)
    (ha : s₁.heap.get? a = some { cls := .type "list", data := .seq vs.toArray }) (hok : HOk P w H s₁.heap) :
    K.In (hidT s₁.heap H) ∧ (hidT s₁.heap H).Ns mainGlobals mg ∧ (∀ q ∈ tabs, TabB (hidT s₁.heap H) mg q.1 q.2) ∧ Env0 P w K mg (hidT s₁.heap H) callerA [] s₁ H := by
  have tabAt : ∀ {b : Addr}, isTabOf tabs b → s₁.heap.get? b = some emptyTab := by
    rintro b ⟨q, hq, rfl⟩
    exact TI.at_ q hq
  have seen : ∀ {b : Addr} {o : Obj}, s₁.heap.get? b = some o → (∀ xs n, o.data = .seq xs n → False) → (o.data = .fields #[] → False) → H b = none := by
    intro b o e n1 n2
    refine Classical.byContradiction fun q => ?_
    cases oa.at_ b q with
    | inl z =>
      rw [z, ha] at e
      have e := Option.some.inj e
      subst e
      exact n1 _ _ rfl
    | inr z =>
      rw [tabAt z] at e
      have e := Option.some.inj e
      subst e
      exact n2 rfl
  have dict : ∀ {b : Addr} {o : Obj} {es : Array DictEntry} {ep : Nat}, s₁.heap.get? b = some o → o.data = .dict es ep → H b = none := fun e d =>
    seen e (fun xs n z => nomatch d.symm.trans z) (fun z => nomatch d.symm.trans z)
  have ns : ∀ {b : Addr} {m : Str → Option Value}, s₁.heap.Ns b m → (hidT s₁.heap H).Ns b m := by
    rintro b m ⟨o, es, ep, e, d, r⟩
    exact ⟨o, es, ep, hidT_get e (dict e d), d, r⟩
  have kin : K.In (hidT s₁.heap H) := by
    intro b o e
    refine hidT_get (KX b o e) (Classical.byContradiction fun q => ?_)
    rcases oa.at_ b q with eb | ⟨t, ht, eb⟩
    · rw [eb] at q e
      rw [oa.out q] at e
      cases e
    · rw [← eb, TI.out t ht] at e
      cases e
  obtain ⟨mc, l1, l2⟩ := g4
  have M : Mod K mg (hidT s₁.heap H) := ⟨kin, ns g1, ⟨mb, ns g2, g3⟩, ⟨mc, ns l1, l2⟩⟩
  have noG : ∀ {b : Addr}, isTabOf tabs b → b ≠ mainGlobals := by
    intro b hb z
    obtain ⟨o, es, ep, e, d, _⟩ := g1
    rw [← z, tabAt hb] at e
    have e := Option.some.inj e
    subst e
    exact nomatch (show Data.fields #[] = Data.dict es ep from d)
  refine ⟨kin, ns g1, fun q hq => ?_, ⟨rfl, M, fun b o e => of_hidT e, Nat.le_of_eq (hidT_size _ _), trivial, ?_, hok, .of_eq g5⟩⟩
  · have isT : isTabOf tabs q.2 := ⟨q, hq, rfl⟩
    refine ⟨?_, ?_, fun z => noG isT z.symm⟩
    · obtain ⟨o, us, v1, v2, v3, v4, v5, v6, v7, e, c1, c2, c3, c4, c5, c6, c7, c8, c9⟩ := TI.hd q hq
      refine ⟨o, us, v1, v2, v3, v4, v5, v6, v7, hidT_get e (seen e (fun xs n z => ?_) fun z => ?_), c1, c2, c3, c4, c5, c6, c7, c8, c9⟩
      · rw [c2] at z
        exact nomatch z
      · rw [c2] at z
        injection z with z
        rw [z] at c3
        simp at c3
    · obtain ⟨m, o, h1, h2, h3, h4, h5, h6⟩ := g6
      refine ⟨m, o, h1, h2, fun z => ?_, fun z => ?_, hidT_get h3 (seen h3 (fun xs n z => ?_) fun z => ?_), h4, h5, h6⟩
      · obtain ⟨o', es, ep, e, d, _⟩ := g1
        rw [← z, h3] at e
        have e := Option.some.inj e
        subst e
        rw [h6] at d
        exact nomatch d
      · rw [z, tabAt isT] at h3
        have h3 := Option.some.inj h3
        subst h3
        exact nomatch (show Data.fields #[] = Data.plain from h6)
      · rw [h6] at z
        exact nomatch z
      · rw [h6] at z
        exact nomatch z
  · intro b hb
    have : b ∈ ([] : List Addr) := hb
    cases this
end
theorem walk_gT {l : PySem.W.OpenLaw} {n k : Nat} {q : Program} {loose : List Str} {XP : (Str → Option Value) → Heap → Prop} {YP : World → Heap → Prop} {d : DefRec} {K : Params → PySem.W.Frag} {x qual : Str} {st : Stmt} {N : List Str} {tabs : List (Addr × Addr)} (hn : l.most = some n) (hn2 : n ≤ sizeLine) (hdf : d.params.defaults = []) (hr : Room (k + 1) callerA)
    (hY : ∀ (w : World) (h : Heap), YP w h → (K w.params).In h) (hY2 : ∀ (w : World) (h : Heap), YP w h → TabsIn (K w.params) h tabs) (S : FnScope N [x] (defScope st))
    (F : ∀ (w : World) (mg : Str → Option Value) (fa : Addr) (h : Heap), (K w.params).In h → h.Ns mainGlobals mg → mg d.name = some (.ref fa) →
      ∃ fd : FuncData, Fun (K w.params) qual qual st fa fd ∧ (∀ (s : Shared) (u : Value), BindsTo s fd ⟨[u], []⟩ [(x, u)]) ∧
        ∀ (base : Heap) (s₁ : Shared) (H : Hp) (a : Addr) (ns : List Int) (cdv : Value), (K w.params).In base → base.Ns mainGlobals mg → (∀ q ∈ tabs, TabB base mg q.1 q.2) → (∀ q ∈ tabs, H q.2 = some (.tbl #[])) → SqL (K w.params) H a (ns.map V.int) → ns.length ≤ n →
          Room k (callerA.deeper (envOfC qual (defScope st) s₁.heap.objs.size fa cdv)) → (callerA.deeper (envOfC qual (defScope st) s₁.heap.objs.size fa cdv)).guards = some [] →
          ∃ t, PSs (cxOf CX0 l.prog w (K w.params) mg base N qual (defScope st) fa cdv callerA [] s₁ H fun _ _ _ => False).nox (defBody st) t ∧ t { nx := fun _ _ => V.non = V.bl true, rt := fun v _ => v = .bl true } (start N [.ref a]) H) :
    PySem.W.WalkO q loose XP YP l.row.toRowW d [] (fun f vs => PySem.call f vs) := by
  refine Att.attach_call hn hdf fun w s₀ s₁ mg mb fa o pm cd doc a vs ns G Y _ _ _ hmg hobj hints hlen hg => ?_
  have KX := hY w _ Y
  have TI := hY2 w _ Y
  obtain ⟨fd, Fd, hb, body⟩ := F w mg fa _ KX G.T.g hmg
  have rv := vals_ints hints
  have lenV := hints.length
  have notT : ¬ isTabOf tabs a := by
    rintro ⟨q, hq, e⟩
    have z := TI.at_ q hq
    rw [e, hobj] at z
    have z := Option.some.inj z
    exact nomatch (show Data.seq vs.toArray _ = Data.fields #[] from congrArg Obj.data z)
  have main : ∀ H : Hp, OnlyT (K w.params) a tabs H → SqL (K w.params) H a (ns.map V.int) → HOk l.prog w H s₁.heap →
      codeAny (model l.prog w) callerA (.call (.ref fa) ⟨[.ref a], []⟩) (fun r s' => r = .ok (.ret (.bool true)) ∧ OldK s₁.heap s'.heap ∧ s'.os = s₁.os ∧ AllBare s'.gens) s₁ := by
    intro H oa hS hok
    obtain ⟨kin, gl, tb, e0⟩ := envT_at oa TI KX G.T.g G.T.b G.T.builtins G.T.nolimit hg G.T.bmain hobj hok
    refine codeAny_mono (enter_g (xs := [.ref a]) Fd S hr e0 (hb s₁ (.ref a)) (.cons rfl .nil) rfl (Q := fun v _ => v = .bl true) fun cdv h1 h2 => body _ s₁ H a ns cdv kin gl tb oa.tb hS hlen h1 h2) fun r s' h => ?_
    cases r with
    | error e => exact h.elim
    | ok fl =>
      cases fl with
      | ret u =>
        obtain ⟨v, H', os, bare, un, hok', r', rfl⟩ := h
        obtain rfl : u = Value.bool true := r'
        have stays : ∀ b o, ¬ isTabOf tabs b → s₁.heap.get? b = some o → s'.heap.get? b = some o := by
          intro b o nb e
          cases z : H b with
          | none => exact un.keep b o e z (by intro q; have : b ∈ ([] : List Addr) := q; cases this) (by simp)
          | some u =>
            rcases oa.frz b with z2 | z2 | ⟨ob, xs, z2⟩
            · rw [z2] at z; cases z
            · exact absurd z2 nb
            · have t1 := (hok b _ z2).1
              have t2 := (hok' b _ (un.frzs b ob _ z2)).1
              rw [e] at t1
              rw [t2, t1]
        have grows : ∀ q ∈ tabs, ∃ more : Array Value, s'.heap.get? q.2 = some { cls := .none, data := .fields more } := fun q hq =>
          let ⟨more, z⟩ := un.tbls q.2 #[] (oa.tb q hq)
          ⟨_, hok' q.2 _ z⟩
        refine ⟨rfl, ⟨fun b o e => ?_, fun b o e => ?_⟩, os, bare⟩
        · cases Classical.em (isTabOf tabs b) with
          | inr nb => exact .inl (stays b o nb e)
          | inl hb =>
            obtain ⟨q, hq, eb⟩ := hb
            subst eb
            obtain ⟨more, hm⟩ := grows q hq
            have e2 := TI.at_ q hq
            rw [e2] at e
            have e := Option.some.inj e
            subst e
            exact .inr (.inl ⟨((TI.hd q hq).tab e2).isCodeTable, rfl, #[], more, rfl, by rw [Array.empty_append]; exact hm⟩)
        · cases Classical.em (isTabOf tabs b) with
          | inr nb => exact ⟨o, stays b o nb e⟩
          | inl hb =>
            obtain ⟨q, hq, eb⟩ := hb
            obtain ⟨more, hm⟩ := grows q hq
            exact ⟨_, eb ▸ hm⟩
      | next => exact False.elim h
      | brk => exact False.elim h
      | cont => exact False.elim h
  have hsz : (ns.map V.int).length ≤ sizeLine := by rw [List.length_map]; exact Nat.le_trans hlen hn2
  let H0 : Hp := fun b => if (∃ q ∈ tabs, q.2 = b) then some (.tbl #[]) else none
  have H0t : ∀ q ∈ tabs, H0 q.2 = some (.tbl #[]) := fun q hq => if_pos ⟨q, hq, rfl⟩
  have H0n : ∀ {b : Addr}, ¬ isTabOf tabs b → H0 b = none := fun nb => if_neg nb
  have H0o : ∀ b u, H0 b = some u → ObjOk l.prog w H0 s₁.heap b u := by
    intro b u z
    cases Classical.em (isTabOf tabs b) with
    | inr nb => rw [H0n nb] at z; cases z
    | inl hb =>
      obtain ⟨q, hq, eb⟩ := hb
      subst eb
      rw [H0t q hq] at z
      have z := Option.some.inj z
      subst z
      exact TI.at_ q hq
  cases hk : (K w.params).lookup a with
  | some o =>
    have e := KX a o hk
    rw [hobj] at e
    cases e
    refine main H0 ⟨fun b z => ?_, fun z => absurd (H0n notT) z, H0t, fun b => ?_⟩ (.inr ⟨_, vs.toArray, _, hk, rfl, rfl, rfl, ?_, by simpa using rv⟩) H0o
    · exact .inr (Classical.byContradiction fun nb => z (H0n nb))
    · cases Classical.em (isTabOf tabs b) with
      | inr nb => exact .inl (H0n nb)
      | inl hb => exact .inr (.inl hb)
    · rw [List.size_toArray, lenV]; exact Nat.le_trans hlen hn2
  | none =>
    have hS0 : (L2.upd H0 a (HO.frz { cls := .type "list", data := .seq vs.toArray } (.lst (ns.map V.int)))) a = some (HO.frz { cls := .type "list", data := .seq vs.toArray } (.lst (ns.map V.int))) := upd_same
    have ne : ∀ {b : Addr}, isTabOf tabs b → b ≠ a := fun hb z => notT (z ▸ hb)
    refine main (L2.upd H0 a (.frz { cls := .type "list", data := .seq vs.toArray } (.lst (ns.map V.int)))) ⟨fun b z => ?_, fun _ => hk, fun q hq => (upd_ne (ne ⟨q, hq, rfl⟩)).trans (H0t q hq), fun b => ?_⟩ (.inl (.inr ⟨_, hS0⟩)) fun b u z => ?_
    · by_cases q : b = a
      · exact .inl q
      · rw [upd_ne q] at z
        exact .inr (Classical.byContradiction fun nb => z (H0n nb))
    · by_cases q : b = a
      · rw [q]
        exact .inr (.inr ⟨_, _, hS0⟩)
      · rw [upd_ne q]
        cases Classical.em (isTabOf tabs b) with
        | inr nb => exact .inl (H0n nb)
        | inl hb => exact .inr (.inl hb)
    · by_cases q : b = a
      · subst q
        have z' := hS0.symm.trans z
        cases z'
        exact ⟨hobj, hsz, vs, _, rv, hobj⟩
      · rw [upd_ne q] at z
        cases Classical.em (isTabOf tabs b) with
        | inr nb => rw [H0n nb] at z; cases z
        | inl hb =>
          obtain ⟨t, ht, eb⟩ := hb
          subst eb
          rw [H0t t ht] at z
          have z := Option.some.inj z
          subst z
          exact TI.at_ t ht
end Ask
namespace Ask
open PySem L2
def top (i : Nat) : Stmt := PySem.Challenge.pw_innerasks_k15_how_deep_texts_go.main.body.getD i (.Pass ⟨0, 0, 0, 0⟩)
abbrev sIsText : Stmt := top 5
abbrev sIsName : Stmt := top 9
abbrev sIsRunPart : Stmt := top 21
abbrev sEndOfRun : Stmt := top 22
abbrev sIsNumber : Stmt := top 23
abbrev sRunWord : Stmt := top 24
abbrev sStringAt : Stmt := top 25
abbrev sStringWord : Stmt := top 26
abbrev sParameterWord : Stmt := top 27
abbrev sWordAt : Stmt := top 28
abbrev sWordsOf : Stmt := top 29
abbrev sReadQuestion : Stmt := top 33
abbrev sReadWhole : Stmt := top 34
abbrev sReadBehind : Stmt := top 35
abbrev sReadIntersects : Stmt := top 36
abbrev sReadKey : Stmt := top 37
abbrev sReadSimple : Stmt := top 38
abbrev sReadEnclosed : Stmt := top 39
abbrev sReadSelect : Stmt := top 40
abbrev sReadItems : Stmt := top 41
abbrev sReadItem : Stmt := top 42
abbrev sReadGroups : Stmt := top 43
abbrev sReadSources : Stmt := top 44
abbrev sReadJoins : Stmt := top 45
abbrev sReadJoinKind : Stmt := top 46
abbrev sReadSingle : Stmt := top 47
abbrev sReadAliased : Stmt := top 48
abbrev sReadOpened : Stmt := top 49
abbrev sReadBehindOpened : Stmt := top 50
abbrev sReadE : Stmt := top 51
abbrev sReadBoth : Stmt := top 52
abbrev sReadNo : Stmt := top 53
abbrev sReadTest : Stmt := top 54
abbrev sReadComparison : Stmt := top 55
abbrev sReadIs : Stmt := top 56
abbrev sReadSum : Stmt := top 57
abbrev sReadProduct : Stmt := top 58
abbrev sReadFactor : Stmt := top 59
abbrev sReadBareFactor : Stmt := top 60
abbrev sReadParenthesized : Stmt := top 61
abbrev sReadColumn : Stmt := top 62
abbrev sReadCase : Stmt := top 63
abbrev sReadChoice : Stmt := top 64
abbrev sReadCoalesce : Stmt := top 65
abbrev sReadCount : Stmt := top 66
abbrev sBegin : Stmt := top 68
abbrev sDraw : Stmt := top 69
abbrev sPick : Stmt := top 70
abbrev sLawTold : Stmt := top 71
abbrev sLawShells : Stmt := top 72
abbrev sLaw : Stmt := top 73
/-! ### the tape -/
abbrev kCells : Key := Sum.inr "cells"
abbrev kPlace : Key := Sum.inr "place"
abbrev kLeft : Key := Sum.inr "left"
theorem ne_cp : ¬ (kCells = kPlace) := by decide +kernel
theorem ne_cl : ¬ (kCells = kLeft) := by decide +kernel
theorem ne_pl : ¬ (kPlace = kLeft) := by decide +kernel
theorem ne_pc : ¬ (kPlace = kCells) := by decide +kernel
theorem ne_lc : ¬ (kLeft = kCells) := by decide +kernel
theorem ne_lp : ¬ (kLeft = kPlace) := by decide +kernel
def tapeD (c : Addr) (p l : Int) : List (Key × V) := [(kCells, .ref c), (kPlace, .int p), (kLeft, .int l)]
theorem tape_cells (c : Addr) (p l : Int) : valV (tapeD c p l) kCells = some (.ref c) := by
  unfold tapeD; rw [valV_pos rfl]
theorem tape_place (c : Addr) (p l : Int) : valV (tapeD c p l) kPlace = some (.int p) := by
  unfold tapeD; rw [valV_neg ne_cp, valV_pos rfl]
theorem tape_left (c : Addr) (p l : Int) : valV (tapeD c p l) kLeft = some (.int l) := by
  unfold tapeD; rw [valV_neg ne_cl, valV_neg ne_pl, valV_pos rfl]
theorem tape_put_place (c : Addr) (p l q : Int) : putK (tapeD c p l) kPlace (.int q) = tapeD c q l := by
  unfold putK tapeD
  rw [if_pos (by simp)]
  show [if kCells = kPlace then (kCells, V.int q) else (kCells, V.ref c), if kPlace = kPlace then (kPlace, V.int q) else (kPlace, V.int p), if kLeft = kPlace then (kLeft, V.int q) else (kLeft, V.int l)] = _
  rw [if_neg ne_cp, if_pos rfl, if_neg ne_lp]
theorem tape_put_left (c : Addr) (p l q : Int) : putK (tapeD c p l) kLeft (.int q) = tapeD c p q := by
  unfold putK tapeD
  rw [if_pos (by simp)]
  show [if kCells = kLeft then (kCells, V.int q) else (kCells, V.ref c), if kPlace = kLeft then (kPlace, V.int q) else (kPlace, V.int p), if kLeft = kLeft then (kLeft, V.int q) else (kLeft, V.int l)] = _
  rw [if_neg ne_cl, if_neg ne_pl, if_pos rfl]
/-- a tape at d, p draws of cells done -/
def Tape (H : Hp) (d : Addr) (p : Int) : Prop :=
  ∃ (c : Addr) (ns : List Int) (l : Int), H d = some (.dK (tapeD c p l)) ∧ H c = some (.lst (ns.map V.int)) ∧ ns ≠ [] ∧ 0 ≤ l ∧ 0 ≤ p
/-- all that was tracked is as it was, but for d, whose cells are the same -/
structure Off (H H' : Hp) (d : Addr) : Prop where
  keep : ∀ b o, H b = some o → b ≠ d → H' b = some o
  cell : ∀ kvs : List (Key × V), H d = some (.dK kvs) → ∃ kvs' : List (Key × V), H' d = some (.dK kvs') ∧ valV kvs' kCells = valV kvs kCells
instance {H H' : Hp} {d : Addr} : CoeFun (Off H H' d) (fun _ => ∀ b o, H b = some o → b ≠ d → H' b = some o) := ⟨Off.keep⟩
theorem Off.refl (H : Hp) (d : Addr) : Off H H d := ⟨fun _ _ h _ => h, fun kvs h => ⟨kvs, h, rfl⟩⟩
theorem Off.trans {H H1 H2 : Hp} {d : Addr} (a : Off H H1 d) (b : Off H1 H2 d) : Off H H2 d := ⟨fun c o h n => b c o (a c o h n) n, fun kvs h => by
  obtain ⟨k1, h1, e1⟩ := a.cell kvs h
  obtain ⟨k2, h2, e2⟩ := b.cell k1 h1
  exact ⟨k2, h2, e2.trans e1⟩⟩
theorem Off.of_same {H H1 : Hp} {d : Addr} (a : Same H H1) : Off H H1 d := ⟨fun c u h _ => a c u h, fun kvs h => ⟨kvs, a _ _ h, rfl⟩⟩
theorem Off.new {H H1 : Hp} {d p : Addr} (a : Off H H1 d) (hp : H1 p = none) (o : HO) : Off H (L2.upd H1 p o) d := a.trans (.of_same fun b u e => by rw [upd_ne (ne_of_none e hp)]; exact e)
theorem Tape.new {H : Hp} {d p : Addr} {i : Int} (t : Tape H d i) (hp : H p = none) (o : HO) : Tape (L2.upd H p o) d i := by
  obtain ⟨c, ns, l, h1, h2, h3, h4, h5⟩ := t
  exact ⟨c, ns, l, by rw [upd_ne (ne_of_none h1 hp)]; exact h1, by rw [upd_ne (ne_of_none h2 hp)]; exact h2, h3, h4, h5⟩
theorem Tape.same {H H1 : Hp} {d : Addr} {i : Int} (t : Tape H d i) (a : Same H H1) : Tape H1 d i := by
  obtain ⟨c, ns, l, h1, h2, h3, h4, h5⟩ := t
  exact ⟨c, ns, l, a _ _ h1, a _ _ h2, h3, h4, h5⟩
theorem Off.fresh {H H1 : Hp} {d D : Addr} (a : Off H H1 d) (hD : H D = none) (n : d ≠ D) (u : HO) : Off H (L2.upd H1 D u) d :=
  ⟨fun b o e nb => by rw [upd_ne (ne_of_none e hD)]; exact a b o e nb, fun kvs e => by
    obtain ⟨k1, h1, e1⟩ := a.cell kvs e
    exact ⟨k1, by rw [upd_ne n]; exact h1, e1⟩⟩
/-- a list that was made since, changed -/
theorem Tape.fresh {H0 H : Hp} {d D : Addr} {p0 p : Int} (T : Tape H d p) (T0 : Tape H0 d p0) (o : Off H0 H d) (hD : H0 D = none) (u : HO) : Tape (L2.upd H D u) d p := by
  obtain ⟨c0, ns0, l0, u1, u2, u3, u4, u5⟩ := T0
  obtain ⟨c, ns, l, h1, h2, h3, h4, h5⟩ := T
  obtain ⟨kvs, e1, e2⟩ := o.cell _ u1
  rw [h1] at e1
  have e3 : tapeD c p l = kvs := HO.dK.inj (Option.some.inj e1)
  rw [← e3, tape_cells, tape_cells] at e2
  have e4 : c = c0 := V.ref.inj (Option.some.inj e2)
  subst e4
  exact ⟨c, ns, l, by rw [upd_ne (ne_of_none u1 hD)]; exact h1, by rw [upd_ne (ne_of_none u2 hD)]; exact h2, h3, h4, h5⟩
theorem Tape.at {H : Hp} {d : Addr} {i : Int} (t : Tape H d i) : ∃ kvs, H d = some (.dK kvs) := let ⟨_, _, _, h, _⟩ := t; ⟨_, h⟩

/-! ### a def of the text, with all that a caller wants of it -/
structure Dn (P : Program) (w : World) (K : PySem.W.Frag) (mg : Str → Option Value) (base : Heap) (k : Nat) (x : Str) (ps : List Str) (sp : Sp) : Prop where
  ex : ∃ (f : Addr) (fd : FuncData), mg x = some (.ref f) ∧ PySem.W.keepIn K (.ref f) = true ∧ Binds K fd ps [] ∧ FnOk P w K mg base CX0 k f fd ps sp
theorem pe_dn {X : Cx} {k : Nat} {x : Str} {ps : List Str} {sp : Sp} {e : Expr} {es : List Expr} {t : TA} {p pos : Pos} (D : Dn X.prog X.w X.K X.mg X.base k x ps sp) (hr : Room k X.A) (hg : Gl X x) (ha : PA X (e :: es) t) (hdb : (x == ("__debug__" : Str)) = false := by decide)
    (he : starEach (e :: es) X.env = (false, eval e X.env) :: starEach es X.env := by rfl) (hpl : (backTo pos (starEach es X.env)).any (·.1) = false := by rfl) : PE X (.Call (.Name x p) (e :: es) [] pos) (tCall sp [] E0 t) := by
  obtain ⟨f, fd, hm, kp, hb, F⟩ := D.ex
  exact pe_call F hr hg hm kp hb .nil pass0 ha hdb he hpl
theorem pe_dn0 {X : Cx} {k : Nat} {x : Str} {ps : List Str} {sp : Sp} {p pos : Pos} (D : Dn X.prog X.w X.K X.mg X.base k x ps sp) (hr : Room k X.A) (hg : Gl X x) (hdb : (x == ("__debug__" : Str)) = false := by decide) : PE X (.Call (.Name x p) [] [] pos) (tCall sp [] E0 tNil) := by
  obtain ⟨f, fd, hm, kp, hb, F⟩ := D.ex
  exact pe_call0 F hr hg hm kp hb .nil pass0 hdb
/-- the built-ins that the module leaves as they are -/
structure Blt (mg : Str → Option Value) : Prop where
  len : mg "len" = none
  int : mg "int" = none
  str : mg "str" = none
  list : mg "list" = none
  tuple : mg "tuple" = none
  set : mg "set" = none
  all : mg "all" = none
  sorted : mg "sorted" = none
  isi : mg "isinstance" = none
  range : mg "range" = none
  repr : mg "repr" = none
  eV : mg "ValueError" = none
  eK : mg "KeyError" = none
  sum : mg "sum" = none
  enum : mg "enumerate" = none
  zip : mg "zip" = none
  min : mg "min" = none
  dict : mg "dict" = none
  ord : mg "ord" = none

section
variable {P : Program} {w : World} {K : PySem.W.Frag} {mg : Str → Option Value} {base : Heap}
theorem boot_int : bootBuiltins ("int" : Str) = some (.type "int") := by decide +kernel
/-! ### _law_draw -/
def spDraw : Sp := fun vs H Q _ => ∃ (d : Addr) (m p : Int), vs = [.ref d, .int m] ∧ 0 < m ∧ m < 1073741824 ∧ Tape H d p ∧ p < 1000000000 ∧
  ∀ (n p' : Int) (H' : Hp), 0 ≤ n → n < m → Tape H' d p' → p' ≤ p + 1 → Off H H' d → Q (.int n) H'
abbrev nD : List Str := ["_law_tape", "_law_many", "_law_place", "_law_size", "_law_cell", "_law_found"]
theorem scD : FnScope nD ["_law_tape", "_law_many"] (defScope sDraw) := ⟨rfl, rfl, rfl, by decide +kernel, rfl, by decide +kernel, by decide +kernel⟩
theorem dg_left {H : Hp} {d c : Addr} {p l : Int} (h : H d = some (.dK (tapeD c p l))) : DGet H d (.str "left") (some (.int l)) := .inl ⟨_, kLeft, .inl h, rfl, (tape_left c p l).symm⟩
theorem dg_place {H : Hp} {d c : Addr} {p l : Int} (h : H d = some (.dK (tapeD c p l))) : DGet H d (.str "place") (some (.int p)) := .inl ⟨_, kPlace, .inl h, rfl, (tape_place c p l).symm⟩
theorem dg_cells {H : Hp} {d c : Addr} {p l : Int} (h : H d = some (.dK (tapeD c p l))) : DGet H d (.str "cells") (some (.ref c)) := .inl ⟨_, kCells, .inl h, rfl, (tape_cells c p l).symm⟩
theorem dp_left {H : Hp} {d c : Addr} {p l q : Int} (h : H d = some (.dK (tapeD c p l))) : DPut H d (.str "left") (.int q) (L2.upd H d (.dK (tapeD c p q))) :=
  .inl ⟨_, kLeft, h, rfl, small1000 (show 3 ≤ 1000 by decide), by rw [tape_put_left]⟩
theorem dp_place {H : Hp} {d c : Addr} {p l q : Int} (h : H d = some (.dK (tapeD c p l))) : DPut H d (.str "place") (.int q) (L2.upd H d (.dK (tapeD c q l))) :=
  .inl ⟨_, kPlace, h, rfl, small1000 (show 3 ≤ 1000 by decide), by rw [tape_put_place]⟩
theorem Off.put {H H1 : Hp} {d c : Addr} {p l : Int} (a : Off H H1 d) (h : H1 d = some (.dK (tapeD c p l))) (p' l' : Int) : Off H (L2.upd H1 d (.dK (tapeD c p' l'))) d := a.trans ⟨fun b u e n => by rw [upd_ne n]; exact e, fun kvs e => by
  rw [h] at e
  have e3 : tapeD c p l = kvs := HO.dK.inj (Option.some.inj e)
  exact ⟨_, upd_same, by rw [← e3, tape_cells, tape_cells]⟩⟩
theorem two_line : (2 : Nat) ≤ sizeLine := by decide
theorem ok_draw {f : Addr} {fd : FuncData} (F : Fun K "_law_draw" "_law_draw" sDraw f fd) (B : Blt mg) : FnOk P w K mg base CX0 1 f fd ["_law_tape", "_law_many"] spDraw := by
  refine F.ok scD (fun vs H Q E h => ?_) (fun cdv A outer s H vs Q E hr h => ?_)
  · obtain ⟨d, m, p, rfl, _⟩ := h
    rfl
  · obtain ⟨d, m, p, rfl, m0, m1, T, p1, k⟩ := h
    have hu := hu_of hr
    obtain ⟨c, ns, l, hd, hc, hne, l0, p0⟩ := T
    have hcd : c ≠ d := (ne_of hd hc (by intro z; cases z)).symm
    obtain ⟨tB, hB, qB⟩ : ∃ tB, PSs (cxOf CX0 P w K mg base nD "_law_draw" (defScope sDraw) f cdv A outer s H E).nox ((defBody sDraw).drop 1) tB ∧ ∀ (v2 v3 v4 : Option V) (p' l' : Int) (H1 : Hp),
        H1 d = some (.dK (tapeD c p' l')) → 0 ≤ l' → 0 ≤ p' → p' ≤ p + 1 → Off H H1 d → tB { nx := fun _ H' => Q .non H', rt := Q } [some (.ref d), some (.int m), v2, v3, v4, none] H1 := by
      refine ⟨_, pss_cons (ps_asg (pe_tup (pa_cons (pe_op op_mod (pe_callTy call_int1 (by rfl) B.int boot_int (pa_cons (pe_dget hu (pv 0) pe_str (fun _ _ => rfl)) pa_nil)) (pv 1)) (pa_cons (pe_op op_fdiv (pe_dget hu (pv 0) pe_str (fun _ _ => rfl)) (pv 1)) pa_nil)))
            (pg_tup rfl (pgs_cons (pg_name (i := 5) scD.nd rfl (.inl rfl)) (pgs_cons (pg_sub (pv 0) pe_str (set_dict hu)) pgs_nil))))
        (pss_one (ps_ret (pv 5))), fun v2 v3 v4 p' l' H1 h1 l1 q0 q1 of => ?_⟩
      refine ⟨_, rfl, d, _, rfl, dg_left h1, .inl ⟨_, rfl, _, rfl, _, _, rfl, rfl, m0, _, rfl, d, _, rfl, dg_left h1, _, rfl, _, _, rfl, rfl, ⟨m0, m1⟩, two_line, fun t ht => ?_⟩⟩
      have htd : d ≠ t := ne_of_none h1 ht
      refine ⟨t, _, rfl, SqT.of upd_same, rfl, _, _, rfl, _, _, rfl, _, rfl, d, _, rfl, dp_left (by rw [upd_ne htd]; exact h1), rfl, _, rfl, ?_⟩
      have o2 : Off H (L2.upd (L2.upd H1 t (.tup [.int (l' % m), .int (l' / m)])) d (.dK (tapeD c p' (l' / m)))) d := (of.new ht _).put (by rw [upd_ne htd]; exact h1) _ _
      exact k _ p' _ (Int.emod_nonneg _ (by omega)) (Int.emod_lt_of_pos _ m0) ⟨c, ns, l' / m, upd_same, o2 _ _ hc hcd, hne, Int.ediv_nonneg l1 (by omega), q0⟩ q1 o2
    refine ⟨_, pss_cons (ps_if (pt_cmpR op_lt (pe_dget hu (pv 0) pe_str (fun _ _ => rfl)) (pv 1) (nomark _))
        (pss_cons (ps_par (i := 2) (j := 3) rfl scD.nd rfl rfl (by decide) rfl rfl (pa_cons (pe_dget hu (pv 0) pe_str (fun _ _ => rfl)) (pa_cons (pe_callB call_len_seq (by rfl) B.len PySem.boot_len (pa_cons (pe_dget hu (pv 0) pe_str (fun _ _ => rfl)) pa_nil)) pa_nil)) (by rfl))
        (pss_cons (ps_asg (pe_tup (pa_cons (pe_ix ix_list (pe_dget hu (pv 0) pe_str (fun _ _ => rfl)) (pe_op op_mod (pe_callTy call_int1 (by rfl) B.int boot_int (pa_cons (pv 2) pa_nil)) (pv 3)) (fun _ _ => rfl)) (pa_cons (pe_op op_add (pv 2) pe_int) pa_nil)))
            (pg_tup rfl (pgs_cons (pg_name (i := 4) scD.nd rfl (.inl rfl)) (pgs_cons (pg_sub (pv 0) pe_str (set_dict hu)) pgs_nil))))
        (pss_cons (ps_dput hu (pv 0) pe_str (pe_op op_mod (pe_callTy call_int1 (by rfl) B.int boot_int (pa_cons (pe_op op_pow (pe_op op_add (pe_op op_add (pe_op op_mod (pe_callTy call_int1 (by rfl) B.int boot_int (pa_cons (pv 4) pa_nil)) pe_int) (pe_op op_mul pe_int (pv 2))) pe_int) pe_int) pa_nil)) (pe_op op_add (pe_op op_pow pe_int pe_int) pe_int)) rfl)
        (pss_one (ps_if (pw_and (pt_cmpR op_ge (pv 4) (pe_op op_pow pe_int pe_int) (nomark _)) (pw_and1 (pt_cmpR op_lt (pv 2) (pv 3) (nomark _)))).pt
          (pss_one (ps_dput hu (pv 0) pe_str (pe_op op_sub (pv 4) (pe_op op_pow pe_int pe_int)) rfl)) pss_nil))))) pss_nil) hB, ?_⟩
    refine ⟨_, rfl, d, _, rfl, dg_left hd, _, rfl, _, _, rfl, rfl, _, rfl, ite2 (fun _ => ?_) (fun _ => qB _ _ _ p l H hd l0 p0 (by omega) (.refl _ _))⟩
    have hlen : 0 < ns.length := List.length_pos_iff.mpr hne
    have hml : (ns.map V.int).length = ns.length := List.length_map _
    obtain ⟨z, hz⟩ : ∃ z : Int, atI (ns.map V.int) (p % (ns.map V.int).length) = some (.int z) := by
      have h1 : 0 ≤ p % (ns.map V.int).length := Int.emod_nonneg _ (by omega)
      have h2 : p % (ns.map V.int).length < (ns.map V.int).length := Int.emod_lt_of_pos _ (by omega)
      have h3 : (p % (ns.map V.int).length).toNat < ns.length := by omega
      exact ⟨ns[(p % (ns.map V.int).length).toNat], at_of (j := (p % (ns.map V.int).length).toNat) (by omega) (by rw [List.getElem?_map, List.getElem?_eq_getElem h3]; rfl)⟩
    -- place, size; cell, tape['place']
    refine ⟨_, rfl, d, _, rfl, dg_place hd, _, rfl, d, _, rfl, dg_cells hd, c, _, rfl, .inl (SqL.of hc), _, _, rfl, ?_⟩
    refine ⟨_, rfl, d, _, rfl, dg_cells hd, _, rfl, .inl ⟨_, rfl, _, rfl, _, _, rfl, rfl, (by omega), c, _, _, _, rfl, rfl, SqL.of hc, hz, _, rfl, _, _, rfl, rfl, two_line, fun t ht => ?_⟩⟩
    have htd : d ≠ t := ne_of_none hd ht
    refine ⟨t, _, rfl, SqT.of upd_same, rfl, _, _, rfl, _, _, rfl, _, rfl, d, _, rfl, dp_place (by rw [upd_ne htd]; exact hd), rfl, ?_⟩
    -- tape['left']
    have e1 := Int.emod_nonneg z (show (2147483647 : Int) ≠ 0 by decide)
    have e2 := Int.emod_lt_of_pos z (show (0 : Int) < 2147483647 by decide)
    refine ⟨_, rfl, .inl ⟨_, rfl, _, _, rfl, rfl, (by show (0 : Int) < 2147483647; decide), _, rfl, _, _, rfl, rfl, .inl ⟨by decide, by decide⟩, _, _, rfl, rfl, _, _, rfl, rfl, _, _, rfl, rfl, ⟨by decide, by decide, by omega⟩, .inl ⟨_, rfl, _, _, rfl, rfl, ⟨by decide, by decide, by decide⟩, _, _, rfl, rfl, _, _, rfl, rfl, (by show (0 : Int) < 10 ^ (50 : Int).toNat + 151; decide), _, rfl, d, _, rfl, dp_left upd_same, ?_⟩⟩⟩
    rw [upd_upd]
    have l2 : ∀ x : Int, 0 ≤ x % (10 ^ (50 : Int).toNat + 151) := fun x => Int.emod_nonneg _ (by decide)
    have of : ∀ q, Off H (L2.upd (L2.upd H t (.tup [.int z, .int (p + 1)])) d (.dK (tapeD c (p + 1) q))) d := fun q => ((Off.refl H d).new ht _).put (by rw [upd_ne htd]; exact hd) _ _
    refine ⟨_, rfl, _, _, rfl, rfl, ⟨by decide, by decide, by decide⟩, _, _, rfl, rfl, _, rfl, ite2 (fun hz18 => ?_) (fun _ => ?_)⟩
    · refine ⟨_, rfl, _, rfl, _, _, rfl, rfl, _, rfl, ite2 (fun _ => ?_) (fun _ => ?_)⟩
      · have hz18 := of_decide_eq_true hz18
        refine ⟨_, rfl, _, _, rfl, rfl, ⟨by decide, by decide, by decide⟩, _, _, rfl, rfl, _, rfl, d, _, rfl, dp_left upd_same, ?_⟩
        rw [upd_upd]
        exact qB _ _ _ (p + 1) _ _ upd_same (by omega) (by omega) (by omega) (of _)
      · exact qB _ _ _ (p + 1) _ _ upd_same (l2 _) (by omega) (by omega) (of _)
    · exact qB _ _ _ (p + 1) _ _ upd_same (l2 _) (by omega) (by omega) (of _)
end
end Ask
namespace Ask
open PySem L2
section
variable {P : Program} {w : World} {K : PySem.W.Frag} {mg : Str → Option Value} {base : Heap}
/-! ### _law_begin -/
def spBegin (K : PySem.W.Frag) : Sp := fun vs H Q _ => ∃ (a : Addr) (ns : List Int), vs = [.ref a] ∧ SqL K H a (ns.map V.int) ∧ ∀ (d : Addr) (H' : Hp), H d = none → Tape H' d 0 → Same H H' → Q (.ref d) H'
abbrev nBg : List Str := ["_law_script"]
theorem scBg : FnScope nBg ["_law_script"] (defScope sBegin) := ⟨rfl, rfl, rfl, by decide +kernel, rfl, by decide +kernel, by decide +kernel⟩
theorem merge_tape (c : Addr) (p l : Int) : mergeK [] (tapeD c p l) = tapeD c p l := by
  have e1 : putK ([] : List (Key × V)) kCells (.ref c) = [(kCells, .ref c)] := putK_new _ rfl
  have e2 : putK [(kCells, V.ref c)] kPlace (.int p) = [(kCells, .ref c), (kPlace, .int p)] := putK_new _ (by rw [valV_neg ne_cp, valV_nil])
  have e3 : putK [(kCells, V.ref c), (kPlace, V.int p)] kLeft (.int l) = tapeD c p l := putK_new _ (by rw [valV_neg ne_cl, valV_neg ne_pl, valV_nil])
  show putK (putK (putK ([] : List (Key × V)) kCells (.ref c)) kPlace (.int p)) kLeft (.int l) = _
  rw [e1, e2, e3]
theorem cut_ints (ns : List Int) (lo hi : Option Int) : ∃ ms : List Int, cutV (ns.map V.int) lo hi = ms.map V.int := by
  unfold cutV
  exact ⟨(ns.drop _).take _, by rw [List.map_take, List.map_drop]⟩
theorem ok_begin {f : Addr} {fd : FuncData} (F : Fun K "_law_begin" "_law_begin" sBegin f fd) : FnOk P w K mg base CX0 1 f fd ["_law_script"] (spBegin K) := by
  refine F.ok scBg (fun vs H Q E h => ?_) (fun cdv A outer s H vs Q E hr h => ?_)
  · obtain ⟨a, ns, rfl, _⟩ := h
    rfl
  · obtain ⟨a, ns, rfl, hs, k⟩ := h
    refine ⟨_, pss_one (ps_ret (pe_disp (pps_cons pe_str (pe_orT (pe_slice sl_list (pv 0) po_none (po_some pe_int)) (pe_one (pe_lst (pa_cons pe_int pa_nil)))) (pps_cons pe_str pe_int (pps_cons pe_str pe_int pps_nil))) rfl rfl (by intro z; cases z) (by decide))), ?_⟩
    intro d hd
    have s1 : Same H (L2.upd H d (.dK [])) := fun b o e => by rw [upd_ne (ne_of_none e hd)]; exact e
    refine ⟨_, rfl, _, rfl, a, _, rfl, s1.seq hs, fun c hc => ?_⟩
    obtain ⟨ms, em⟩ := cut_ints ns none (some 63)
    have ncd : d ≠ c := ne_of_none upd_same hc
    have s2 : ∀ o, Same H (L2.upd (L2.upd H d (.dK [])) c o) := fun o b u e => by rw [upd_ne (ne_of_none (s1 _ _ e) hc)]; exact s1 _ _ e
    have fin : ∀ (c : Addr) (ms : List Int) (H1 : Hp), ms ≠ [] → Same H H1 → H1 d = some (.dK []) → H1 c = some (.lst (ms.map V.int)) → c ≠ d → Q (.ref d) (L2.upd H1 d (.dK (mergeK [] (tapeD c 0 0)))) := fun c ms H1 hm hs1 h1 h2 hn => by
      rw [merge_tape]
      refine k d _ hd ⟨c, ms, 0, upd_same, by rw [upd_ne hn]; exact h2, hm, by omega, by omega⟩ fun b u e => ?_
      rw [upd_ne (ne_of_none e hd)]
      exact hs1 _ _ e
    rw [em]
    refine ⟨!(ms.map V.int).isEmpty, .inl ⟨_, SqL.of upd_same, rfl⟩, ?_⟩
    cases ms with
    | nil =>
      refine iteF ⟨by show 1 ≤ sizeLine; decide, fun c2 hc2 => ?_⟩
      have n2 : d ≠ c2 := ne_of_none (by rw [upd_ne ncd]; exact upd_same) hc2
      refine ⟨by rw [upd_ne n2, upd_ne ncd]; exact upd_same, tapeD c2 0 0, rfl, by show 3 ≤ 15; decide, ?_⟩
      exact fin c2 [0] _ (by intro z; cases z) (fun b u e => by rw [upd_ne (ne_of_none (s2 _ _ _ e) hc2)]; exact s2 _ _ _ e) (by rw [upd_ne n2, upd_ne ncd]; exact upd_same) upd_same n2.symm
    | cons m ms =>
      refine iteT ?_
      refine ⟨by rw [upd_ne ncd]; exact upd_same, tapeD c 0 0, rfl, by show 3 ≤ 15; decide, ?_⟩
      exact fin c (m :: ms) _ (by intro z; cases z) (s2 _) (by rw [upd_ne ncd]; exact upd_same) upd_same ncd.symm
/-! ### _law_pick -/
/-- v is a list, a tuple or a text with the items xs -/
def Seq3 (K : PySem.W.Frag) (H : Hp) (v : V) (xs : List V) : Prop :=
  (∃ a, v = .ref a ∧ SqL K H a xs) ∨ (∃ a, v = .ref a ∧ SqT K H a xs) ∨ ∃ z : Str, v = .str z ∧ z.length ≤ sizeLine ∧ xs = z.cps.toList.map fun c => V.str ⟨#[c]⟩
theorem Off.seqL {H H' : Hp} {d a : Addr} {kvs : List (Key × V)} {xs : List V} (o : Off H H' d) (hd : H d = some (.dK kvs)) (h : SqL K H a xs) : SqL K H' a xs := by
  rcases h with (h | ⟨u, h⟩) | h
  · exact .inl (.inl (o _ _ h (ne_of h hd (by intro z; cases z))))
  · exact .inl (.inr ⟨u, o _ _ h (ne_of h hd (by intro z; cases z))⟩)
  · exact .inr h
theorem Off.seqT {H H' : Hp} {d a : Addr} {kvs : List (Key × V)} {xs : List V} (o : Off H H' d) (hd : H d = some (.dK kvs)) (h : SqT K H a xs) : SqT K H' a xs := by
  rcases h with (h | ⟨u, h⟩) | h
  · exact .inl (.inl (o _ _ h (ne_of h hd (by intro z; cases z))))
  · exact .inl (.inr ⟨u, o _ _ h (ne_of h hd (by intro z; cases z))⟩)
  · exact .inr h
theorem Seq3.off {H H' : Hp} {d : Addr} {kvs : List (Key × V)} {v : V} {xs : List V} (h : Seq3 K H v xs) (o : Off H H' d) (hd : H d = some (.dK kvs)) : Seq3 K H' v xs := by
  rcases h with ⟨a, e, h⟩ | ⟨a, e, h⟩ | h
  · exact .inl ⟨a, e, o.seqL hd h⟩
  · exact .inr (.inl ⟨a, e, o.seqT hd h⟩)
  · exact .inr (.inr h)
theorem Seq3.len {H : Hp} {v : V} {xs : List V} (h : Seq3 K H v xs) : LenV K v H xs.length := by
  rcases h with ⟨a, rfl, h⟩ | ⟨a, rfl, h⟩ | ⟨z, rfl, hz, rfl⟩
  · exact .inl ⟨xs, h, rfl⟩
  · exact .inr ⟨xs, h, rfl⟩
  · exact ⟨hz, by rw [List.length_map]; rfl⟩
theorem atI_map {α β : Type} (g : α → β) (l : List α) (i : Int) : atI (l.map g) i = (atI l i).map g := by
  unfold atI
  rw [List.length_map]
  cases ixN l.length i with
  | none => rfl
  | some j => simp
theorem Seq3.ix {H : Hp} {v y : V} {xs : List V} {i : Int} {Q : VK} (h : Seq3 K H v xs) (e : atI xs i = some y) (q : Q y H) : rIx K v (.int i) H Q := by
  rcases h with ⟨a, rfl, h⟩ | ⟨a, rfl, h⟩ | ⟨z, rfl, hz, rfl⟩
  · exact .inl ⟨a, xs, i, y, rfl, rfl, h, e, q⟩
  · exact .inr (.inl ⟨a, xs, i, y, rfl, rfl, h, e, q⟩)
  · rw [atI_map] at e
    obtain ⟨c, e1, rfl⟩ := Option.map_eq_some_iff.mp e
    exact .inr (.inr ⟨z, i, c, rfl, rfl, hz, e1, q⟩)
def spPick (K : PySem.W.Frag) : Sp := fun vs H Q _ => ∃ (d : Addr) (v : V) (xs : List V) (p : Int), vs = [.ref d, v] ∧ Tape H d p ∧ p < 1000000000 ∧ Seq3 K H v xs ∧ xs ≠ [] ∧ xs.length < 1073741824 ∧
  ∀ (x : V) (p' : Int) (H' : Hp), x ∈ xs → Tape H' d p' → p' ≤ p + 1 → Off H H' d → Q x H'
abbrev nPk : List Str := ["_law_tape", "_law_items"]
theorem scPk : FnScope nPk ["_law_tape", "_law_items"] (defScope sPick) := ⟨rfl, rfl, rfl, by decide +kernel, rfl, by decide +kernel, by decide +kernel⟩
theorem ok_pick {f : Addr} {fd : FuncData} (F : Fun K "_law_pick" "_law_pick" sPick f fd) (B : Blt mg) (DD : Dn P w K mg base 1 "_law_draw" ["_law_tape", "_law_many"] spDraw) : FnOk P w K mg base CX0 2 f fd ["_law_tape", "_law_items"] (spPick K) := by
  refine F.ok scPk (fun vs H Q E h => ?_) (fun cdv A outer s H vs Q E hr h => ?_)
  · obtain ⟨d, v, xs, p, rfl, _⟩ := h
    rfl
  · obtain ⟨d, v, xs, p, rfl, T, p1, S, hne, hl, k⟩ := h
    have hlen : 0 < xs.length := List.length_pos_iff.mpr hne
    refine ⟨_, pss_one (ps_ret (pe_ix ix_seq (pv 1) (pe_dn DD hr (by rfl) (pa_cons (pv 0) (pa_cons (pe_callB call_len (by rfl) B.len PySem.boot_len (pa_cons (pv 1) pa_nil)) pa_nil))) (fun _ _ => rfl))), ?_⟩
    refine ⟨_, rfl, _, rfl, _, rfl, _, _, rfl, S.len, d, _, p, rfl, by omega, by omega, T, p1, fun n p' H' n0 n1 T' hp o => ?_⟩
    obtain ⟨kvs, hd⟩ := T.at
    have h3 : n.toNat < xs.length := by omega
    exact (S.off o hd).ix (at_of (j := n.toNat) (by omega) (List.getElem?_eq_getElem h3)) (k _ p' H' (List.getElem_mem h3) T' hp o)
end
end Ask
namespace Ask
open PySem L2 PySem.Spec PyProof.Rows PySem.AskX LamX NdefX
theorem PE.imp {X : Cx} {e : Expr} {t t' : TE} (h : PE X e t) (i : ∀ σ H Q, t' σ H Q → t σ H Q) : PE X e t' := ⟨fun pins s σ H Q I q => h.run pins s σ H Q I (i σ H Q q)⟩
theorem PA.imp {X : Cx} {es : List Expr} {t t' : TA} (h : PA X es t) (i : ∀ σ H (Q : List V → Hp → Prop), t' σ H Q → t σ H Q) : PA X es t' := ⟨fun pos pins s σ H Q I q => h.run pos pins s σ H Q I (i σ H Q q)⟩
section
variable {K : PySem.W.Frag} {H H1 : Hp}
theorem tupS {a : Addr} {xs : List V} (s : Same H H1) (h : SqT K H a xs) : SqT K H1 a xs := by
  rcases h with (h | ⟨u, h⟩) | h
  · exact .inl (.inl (s _ _ h))
  · exact .inl (.inr ⟨u, s _ _ h⟩)
  · exact .inr h
mutual
theorem dpS (s : Same H H1) : ∀ {v : V} {d : PyData}, Dp K H v d → Dp K H1 v d
  | _, _, .non => .non
  | _, _, .bl b => .bl b
  | _, _, .int i => .int i
  | _, _, .str x => .str x
  | _, _, .lst h r => .lst (Same.seq s h) (dpsS s r)
  | _, _, .tup h r => .tup (tupS s h) (dpsS s r)
theorem dpsS (s : Same H H1) : ∀ {vs : List V} {ds : List PyData}, DpAll K H vs ds → DpAll K H1 vs ds
  | _, _, .nil => .nil
  | _, _, .cons a r => .cons (dpS s a) (dpsS s r)
end
theorem Dx.same (s : Same H H1) {v : V} {d : PyData} (h : Dx K H v d) : Dx K H1 v d := by
  cases h with
  | dp h e => exact .dp (dpS s h) e
  | d0 h => exact .d0 (s _ _ h)
  | d1 h => exact .d1 (s _ _ h)
theorem DxAll.same (s : Same H H1) : ∀ {vs : List V} {ds : List PyData}, DxAll K H vs ds → DxAll K H1 vs ds
  | _, _, .nil => .nil
  | _, _, .cons a r => .cons (a.same s) (r.same s)
theorem DxAll.plain : ∀ {vs : List V} {ds : List PyData}, DxAll K H vs ds → PyData.hasDictAll ds = false → DpAll K H vs ds
  | _, _, .nil, _ => .nil
  | _, _, .cons a r, e => by
    simp only [PyData.hasDictAll, Bool.or_eq_false_iff] at e
    refine .cons ?_ (r.plain e.2)
    cases a with
    | dp h _ => exact h
    | d0 _ => simp [PyData.hasDict] at e
    | d1 _ => simp [PyData.hasDict] at e
theorem DxAll.mem : ∀ {vs : List V} {ds : List PyData} {v : V}, DxAll K H vs ds → v ∈ vs → ∃ d ∈ ds, Dx K H v d
  | _, _, _, .nil, m => nomatch m
  | _, _, v, .cons a r, m => by
    rcases List.mem_cons.mp m with e | m
    · subst e
      exact ⟨_, List.mem_cons_self .., a⟩
    · obtain ⟨d, hd, h⟩ := r.mem m
      exact ⟨d, List.mem_cons_of_mem _ hd, h⟩
theorem DxAll.append : ∀ {vs us : List V} {ds es : List PyData}, DxAll K H vs ds → DxAll K H us es → DxAll K H (vs ++ us) (ds ++ es)
  | _, _, _, _, .nil, z => z
  | _, _, _, _, .cons a r, z => .cons a (r.append z)
theorem DxAll.length : ∀ {vs : List V} {ds : List PyData}, DxAll K H vs ds → vs.length = ds.length
  | _, _, .nil => rfl
  | _, _, .cons a r => congrArg (· + 1) r.length
/-- what is new in H1 -/
def New (H H1 : Hp) : Hp := fun b => match H b with
  | none => H1 b
  | some _ => none
theorem new_at {H H1 : Hp} {b : Addr} (h : H b = none) : New H H1 b = H1 b := by unfold New; rw [h]
theorem new_of {H H1 : Hp} {b : Addr} {o : HO} (h : New H H1 b = some o) : H b = none ∧ H1 b = some o := by
  unfold New at h
  cases e : H b with
  | none => rw [e] at h; exact ⟨rfl, h⟩
  | some u => rw [e] at h; cases h
theorem newIn {H H1 : Hp} : Same (New H H1) H1 := fun b o h => (new_of h).2
theorem new1 {H H1 H2 : Hp} (s : Same H1 H2) : Same (New H H1) (New H H2) := fun b o h => by
  obtain ⟨h1, h2⟩ := new_of h
  rw [new_at h1]
  exact s _ _ h2
theorem new2 {H H1 H2 : Hp} (s : Same H H1) : Same (New H1 H2) (New H H2) := fun b o h => by
  obtain ⟨h1, h2⟩ := new_of h
  rw [new_at (s.free h1)]
  exact h2
theorem newO {H H1 H2 : Hp} {D : Addr} {u : HO} (o : Off H1 H2 D) (hd : H D = some u) : Same (New H H1) (New H H2) := fun b v h => by
  obtain ⟨h1, h2⟩ := new_of h
  rw [new_at h1]
  exact o _ _ h2 (fun e => by rw [e, hd] at h1; cases h1)
end
/-- an expression that makes these data -/
def tDat (K : PySem.W.Frag) (d : PyData) : TE := fun _ H Q => ∀ v H1, Same H H1 → Dx K (New H H1) v d → Q v H1
def tDats (K : PySem.W.Frag) (ds : List PyData) : TA := fun _ H Q => ∀ vs H1, Same H H1 → DxAll K (New H H1) vs ds → Q vs H1
section
variable {X : Cx} {e : Expr} {es : List Expr} {d : PyData} {ds : List PyData} {pos p q r : Pos} {n : Nat}
theorem pd_nil : PA X [] (tDats X.K []) := PA.imp pa_nil fun σ H Q q => q [] H (.refl H) .nil
theorem pd_cons (h : PE X e (tDat X.K d)) (t : PA X es (tDats X.K ds)) (hs : starEach (e :: es) X.env = (false, eval e X.env) :: starEach es X.env := by rfl) : PA X (e :: es) (tDats X.K (d :: ds)) := PA.imp (pa_cons h t hs) fun σ H Q q v H1 s1 x vs H2 s2 xs => q _ _ (s1.trans s2) (.cons (x.same (new1 s2)) (xs.same (new2 s1)))
theorem pd_non : PE X (.Constant .none n pos) (tDat X.K .none) := PE.imp pe_non fun σ H Q q => q _ _ (.refl H) (.dp .non rfl)
theorem pd_bl {b : Bool} : PE X (.Constant (.bool b) n pos) (tDat X.K (.bool b)) := PE.imp pe_bl fun σ H Q q => q _ _ (.refl H) (.dp (.bl b) rfl)
theorem pd_int {i : Int} : PE X (.Constant (.int i) n pos) (tDat X.K (.int i)) := PE.imp pe_int fun σ H Q q => q _ _ (.refl H) (.dp (.int i) rfl)
theorem pd_str {i : Str} : PE X (.Constant (.str i) n pos) (tDat X.K (.str i)) := PE.imp pe_str fun σ H Q q => q _ _ (.refl H) (.dp (.str i) rfl)
theorem pd_neg {i : Int} : PE X (.UnaryOp .USub (.Constant (.int i) n pos) p) (tDat X.K (.int (-i))) := PE.imp (pe_un un_neg pe_int) fun σ H Q q => ⟨i, rfl, q _ _ (.refl H) (.dp (.int _) rfl)⟩
theorem pd_pow {m : Nat} : PE X (.BinOp (.Constant (.int 10) n pos) .Pow (.Constant (.int 40) m p) q) (tDat X.K (.int (10 ^ (40 : Int).toNat))) := PE.imp (pe_op op_pow pe_int pe_int) fun σ H Q q => ⟨10, 40, rfl, rfl, ⟨by decide, by decide, by decide⟩, q _ _ (.refl H) (.dp (.int _) rfl)⟩
theorem pd_tup (h : PA X es (tDats X.K ds)) (hd : PyData.hasDictAll ds = false) (hl : ds.length ≤ 1000) : PE X (.Tuple es n pos) (tDat X.K (.tuple ds)) := PE.imp (pe_tup h) fun σ H Q q vs H1 s1 xs => ⟨by rw [xs.length]; exact Nat.le_trans hl (by decide), fun a ha => by
  have s2 : Same H1 (L2.upd H1 a (.tup vs)) := fun b o e => (upd_ne (ne_of_none e ha)).trans e
  exact q _ _ (s1.trans s2) (.dp (.tup (.of ((new_at (s1.free ha)).trans upd_same)) (dpsS (new1 s2) (xs.plain hd))) (by simp only [PyData.hasDict]; exact hd))⟩
theorem pd_lst (h : PA X es (tDats X.K ds)) (hd : PyData.hasDictAll ds = false) (hl : ds.length ≤ 1000) : PE X (.List es pos) (tDat X.K (.list ds)) := PE.imp (pe_lst h) fun σ H Q q vs H1 s1 xs => ⟨by rw [xs.length]; exact Nat.le_trans hl (by decide), fun a ha => by
  have s2 : Same H1 (L2.upd H1 a (.lst vs)) := fun b o e => (upd_ne (ne_of_none e ha)).trans e
  exact q _ _ (s1.trans s2) (.dp (.lst (.of ((new_at (s1.free ha)).trans upd_same)) (dpsS (new1 s2) (xs.plain hd))) (by simp only [PyData.hasDict]; exact hd))⟩
theorem pd_d0 : PE X (.Dict [] [] pos) (tDat X.K (.dict [])) := PE.imp pe_dnewK fun σ H Q q => by
  intro a ha
  exact q _ _ (fun b o e => (upd_ne (ne_of_none e ha)).trans e) (.d0 ((new_at ha).trans upd_same))
theorem pd_d1 {z : Str} {i : Int} {m : Nat} : PE X (.Dict [some (.Constant (.str z) n p)] [.Constant (.int i) m q] pos) (tDat X.K (.dict [(.str z, .int i)])) := PE.imp (pe_disp (pps_cons pe_str pe_int pps_nil) rfl rfl (by intro z; cases z) (Nat.le_of_ble_eq_true rfl)) fun σ H Q k => by
  intro a ha
  refine ⟨upd_same, [(.inr z, .int i)], rfl, (by decide : 1 ≤ 15), ?_⟩
  refine k _ _ (fun b o e => (upd_ne (ne_of_none e ha)).trans ((upd_ne (ne_of_none e ha)).trans e)) (.d1 (z := z) (i := i) ?_)
  exact (new_at ha).trans upd_same
end
def odds1 : List PyData := [.none, .bool true, .bool false, .int (0), .int (1), .int (-1), .int (7), .int (10 ^ (40 : Int).toNat), .str "", .str "a", .str "self", .str "select", .str "A", .str "a b", .str "whole", .tuple [], .list [], .dict [], .tuple [.str "a"]]
def odds2 : List PyData := [.list [.str "a"], .tuple [.int (0)], .tuple [.int (1), .int (2)], .list [.int (0)], .tuple [.tuple [.str "a"]], .dict [(.str "a", .int 1)], .tuple [.str "column", .int (1)], .tuple [.str "value", .none], .tuple [.str "and", .tuple []], .tuple [.none]]
def odds3 : List PyData := [.tuple [.bool true], .tuple [.str "one", .int (1)], .str "abcdefghijklm", .tuple [.int (1), .int (1)], .tuple [.tuple [.str "value", .int (1)]], .list [.tuple []], .int (3)]
def odds : List PyData := odds1 ++ odds2 ++ odds3
end Ask
namespace Ask
open PySem L2 PySem.Spec PyProof.Rows PySem.AskX LamX NdefX
/-! ### kinds of plain values -/
theorem line1000 {n : Nat} (h : n ≤ 1000) : n ≤ sizeLine := Nat.le_of_lt (small1000 h)
theorem boot_str : bootBuiltins ("str" : Str) = some (.type "str") := by decide +kernel
theorem boot_tuple : bootBuiltins ("tuple" : Str) = some (.type "tuple") := by decide +kernel
theorem boot_list : bootBuiltins ("list" : Str) = some (.type "list") := by decide +kernel
theorem boot_set : bootBuiltins ("set" : Str) = some (.type "set") := by decide +kernel
theorem boot_sorted : bootBuiltins ("sorted" : Str) = some (.builtin "sorted") := by decide +kernel
theorem boot_isi : bootBuiltins ("isinstance" : Str) = some (.builtin "isinstance") := by decide +kernel
theorem boot_all : bootBuiltins ("all" : Str) = some (.builtin "all") := by decide +kernel
theorem boot_repr : bootBuiltins ("repr" : Str) = some (.builtin "repr") := by decide +kernel
theorem same_new {H : Hp} {p : Addr} (hp : H p = none) (o : HO) : Same H (L2.upd H p o) := fun b u e => by rw [upd_ne (ne_of_none e hp)]; exact e
def tyL : List String := ["NoneType", "bool", "int", "str", "list", "tuple", "dict"]
theorem kit_str : ∀ t ∈ tyL, kitB t "str" = some (t == "str") := by decide +kernel
theorem kit_tuple : ∀ t ∈ tyL, kitB t "tuple" = some (t == "tuple") := by decide +kernel
/-- the class of a datum -/
def dTy : PyData → String
  | .none => "NoneType"
  | .bool _ => "bool"
  | .int _ => "int"
  | .str _ => "str"
  | .list _ => "list"
  | .tuple _ => "tuple"
  | .dict _ => "dict"
theorem dTy_in (d : PyData) : dTy d ∈ tyL := by cases d <;> simp [dTy, tyL]
theorem tyx_lst {K : PySem.W.Frag} {H : Hp} {a : Addr} {xs : List V} (h : SqL K H a xs) : TyX K H (.ref a) (.type "list") := by
  rcases h with (h | ⟨o, h⟩) | ⟨o, its, n, e, c, _⟩
  · exact .base (.lst h)
  · exact .base (.frz h)
  · exact .kList e c
theorem tyx_tup {K : PySem.W.Frag} {H : Hp} {a : Addr} {xs : List V} (h : SqT K H a xs) : TyX K H (.ref a) (.type "tuple") := by
  rcases h with (h | ⟨o, h⟩) | ⟨o, its, n, e, c, _⟩
  · exact .base (.tup h)
  · exact .fTuple h
  · exact .kTuple e c
theorem dp_ty {K : PySem.W.Frag} {H : Hp} {v : V} {d : PyData} (h : Dp K H v d) : TyX K H v (.type (dTy d)) := by
  cases h with
  | non => exact .base .non
  | bl b => exact .base (.bl b)
  | int i => exact .base (.int i)
  | str z => exact .base (.str z)
  | lst h _ => exact tyx_lst h
  | tup h _ => exact tyx_tup h
theorem Dx.ty {K : PySem.W.Frag} {H : Hp} {v : V} {d : PyData} (h : Dx K H v d) : TyX K H v (.type (dTy d)) := by
  cases h with
  | dp h _ => exact dp_ty h
  | d0 h => exact .base (.dK h)
  | d1 h => exact .base (.dK h)
/-- a datum that is no text -/
def isStr : PyData → Bool
  | .str _ => true
  | _ => false
theorem dty_str (d : PyData) : (dTy d == "str") = isStr d := by cases d <;> simp [dTy, isStr]
theorem Dx.str_eq {K : PySem.W.Frag} {H : Hp} {v : V} {z : Str} (h : Dx K H v (.str z)) : v = .str z := by
  cases h with
  | dp h _ => cases h; rfl
/-! ### texts that are names -/
def kwL : List Str := (["all", "and", "any", "as", "by", "case", "coalesce", "count", "cross", "desc", "distinct", "else", "end", "except", "exists", "first", "from", "full", "group", "having", "in", "inner", "intersect", "is", "join", "least", "left", "most", "not", "null", "on", "one", "or", "order", "select", "sum", "then", "union", "when", "where"] : List String).map Str.ofString
def lowC (c : Nat) : Bool := decide (97 ≤ c) && decide (c ≤ 122)
def nameB (z : Str) : Bool := decide (1 ≤ z.length) && decide (z.length ≤ 12) && z.cps.toList.all lowC && !decide (z = "self") && !decide (z ∈ kwL)
def nameD : PyData → Bool
  | .str z => nameB z
  | _ => false
mutual
/-- texts and rows of it are short -/
def small : PyData → Bool
  | .str z => decide (z.length ≤ 100)
  | .list xs => decide (xs.length ≤ 60) && smallAll xs
  | .tuple xs => decide (xs.length ≤ 60) && smallAll xs
  | _ => true
def smallAll : List PyData → Bool
  | [] => true
  | x :: xs => small x && smallAll xs
end
theorem smallAll_mem : ∀ {xs : List PyData} {d : PyData}, smallAll xs = true → d ∈ xs → small d = true
  | x :: xs, d, h, hd => by
    rw [smallAll, Bool.and_eq_true] at h
    rcases List.mem_cons.mp hd with rfl | hd
    · exact h.1
    · exact smallAll_mem h.2 hd
theorem inV_strs (z : Str) (l : List Str) : inV (.str z) (l.map V.str) = decide (z ∈ l) := by
  unfold inV
  rw [List.any_map]
  induction l with
  | nil => simp
  | cons y r ih =>
    rw [List.any_cons, ih]
    show (decide (y = z) || _) = _
    by_cases e : y = z
    · subst e; simp
    · have e' : ¬ z = y := fun q => e q.symm
      simp [e, e']
theorem flat_strs (l : List Str) : (l.map V.str).all flatV = true := by
  rw [List.all_map]; simp [flatV, Function.comp_def]
theorem one_lt (a b : Nat) : decide (([a] : List Nat) < [b]) = decide (a < b) := by
  have : (([a] : List Nat) < [b]) ↔ a < b := by simp [List.cons_lt_cons_iff]
  simp [this]
theorem low_at {x : Str} {a : Nat} (e : x.cps.toList = [a]) (c : Nat) : (!decide ((⟨#[c]⟩ : Str).cps.toList < x.cps.toList)) = decide (a ≤ c) := by
  rw [e]
  show (!decide (([c] : List Nat) < [a])) = _
  rw [one_lt]
  by_cases h : c < a <;> simp [h] <;> omega
theorem high_at {x : Str} {b : Nat} (e : x.cps.toList = [b]) (c : Nat) : (!decide (x.cps.toList < (⟨#[c]⟩ : Str).cps.toList)) = decide (c ≤ b) := by
  rw [e]
  show (!decide (([b] : List Nat) < [c])) = _
  rw [one_lt]
  by_cases h : b < c <;> simp [h] <;> omega
theorem cp_a : ("a" : Str).cps.toList = [97] := by decide +kernel
theorem cp_z : ("z" : Str).cps.toList = [122] := by decide +kernel
theorem tYes_go {σ : L2.St} {H : Hp} {A B : Hp → Prop} (h : A H) : tYes σ H (fun b H3 => if b = true then A H3 else B H3) := by
  unfold tYes
  exact iteT h
/-- a def that answers True or False and changes nothing -/
def spB (R : List V → Hp → Bool → Prop) : Sp := fun vs H Q _ => ∃ b, R vs H b ∧ ∀ H', Same H H' → Q (.bl b) H'
def RName (K : PySem.W.Frag) : List V → Hp → Bool → Prop := fun vs H b => ∃ v d, vs = [v] ∧ Dx K H v d ∧ small d = true ∧ b = nameD d
/-- [f(x) for x in xs], f keeping all -/
theorem lcm_list {K : PySem.W.Frag} {a : Addr} {xs ys : List V} {te : TE} {vs : List Nat} {σ : L2.St} {H1 : Hp} {D : Addr} {Qd : Hp → Prop} {i : Nat} (hD : H1 D = none) (hl : SqL K H1 a xs) (len : ys.length = xs.length) (sm : xs.length ≤ 1000)
    (hw : ∀ x, wipe ((wipe σ vs).set i (some x)) vs = wipe σ vs)
    (hs : ∀ (j : Nat) (x y : V) (H2 : Hp), xs[j]? = some x → ys[j]? = some y → Same H1 H2 → ∀ Q : VK, (∀ H4, Same H2 H4 → Q y H4) → te ((wipe σ vs).set i (some x)) H2 Q) (hd : ∀ H', Same H1 H' → H' D = some (.lst ys) → Qd H') :
    ∃ W : Nat → Nat → Hp → Prop, (∃ m, W 0 m (L2.upd H1 D (.lst []))) ∧ ∀ i' m H, W i' m H →
      ((Itl K a).stop i' H ∧ Qd H) ∨ ((Itl K a).go i' H ∧ ∃ Nx : Hp → Prop, (∀ H', Nx H' → ∃ m', m' < m ∧ W (i' + 1) m' H') ∧ ∀ x H', (Itl K a).yld i' H x H' → gName i x (wipe σ vs) H' fun σ2 H2 => wipe σ2 vs = wipe σ vs ∧ tYes σ2 H2 fun b H3 =>
        if b = true then te σ2 H3 fun y H4 => ∃ acc, H4 D = some (.lst acc) ∧ acc.length < sizeLine ∧ Nx (L2.upd H4 D (.lst (acc ++ [y]))) else Nx H3) := by
  refine lc_list (xs := xs) (fun j H2 => Same H1 H2 ∧ H2 D = some (.lst (ys.take j))) ⟨same_new hD _, upd_same⟩ (fun j H2 _ q => Same.seq q.1 hl) ?_ ?_
  · rintro j x H2 hx ⟨s2, hD2⟩
    have jl : j < xs.length := (List.getElem?_eq_some_iff.mp hx).1
    have hy : ys[j]? = some (ys[j]'(by omega)) := List.getElem?_eq_getElem (by omega)
    refine ⟨hw x, tYes_go (hs j x _ H2 hx hy s2 _ fun H4 s4 => ⟨_, s4 _ _ hD2, ?_, fun b o e => ?_, ?_⟩)⟩
    · refine small1000 ?_
      rw [List.length_take]
      omega
    · rw [upd_ne (ne_of_none e hD)]
      exact s4 _ _ (s2 _ _ e)
    · rw [upd_same, List.take_add_one, hy]
      rfl
  · rintro H2 ⟨s2, hD2⟩
    rw [List.take_of_length_le (by omega)] at hD2
    exact hd H2 s2 hD2
theorem lcm_tup {K : PySem.W.Frag} {a : Addr} {xs ys : List V} {te : TE} {vs : List Nat} {σ : L2.St} {H1 : Hp} {D : Addr} {Qd : Hp → Prop} {i : Nat} (hD : H1 D = none) (hl : SqT K H1 a xs) (len : ys.length = xs.length) (sm : xs.length ≤ 1000)
    (hw : ∀ x, wipe ((wipe σ vs).set i (some x)) vs = wipe σ vs)
    (hs : ∀ (j : Nat) (x y : V) (H2 : Hp), xs[j]? = some x → ys[j]? = some y → Same H1 H2 → ∀ Q : VK, (∀ H4, Same H2 H4 → Q y H4) → te ((wipe σ vs).set i (some x)) H2 Q) (hd : ∀ H', Same H1 H' → H' D = some (.lst ys) → Qd H') :
    ∃ W : Nat → Nat → Hp → Prop, (∃ m, W 0 m (L2.upd H1 D (.lst []))) ∧ ∀ i' m H, W i' m H →
      ((Itt K a).stop i' H ∧ Qd H) ∨ ((Itt K a).go i' H ∧ ∃ Nx : Hp → Prop, (∀ H', Nx H' → ∃ m', m' < m ∧ W (i' + 1) m' H') ∧ ∀ x H', (Itt K a).yld i' H x H' → gName i x (wipe σ vs) H' fun σ2 H2 => wipe σ2 vs = wipe σ vs ∧ tYes σ2 H2 fun b H3 =>
        if b = true then te σ2 H3 fun y H4 => ∃ acc, H4 D = some (.lst acc) ∧ acc.length < sizeLine ∧ Nx (L2.upd H4 D (.lst (acc ++ [y]))) else Nx H3) := by
  refine lc_tup (xs := xs) (fun j H2 => Same H1 H2 ∧ H2 D = some (.lst (ys.take j))) ⟨same_new hD _, upd_same⟩ (fun j H2 _ q => tupS q.1 hl) ?_ ?_
  · rintro j x H2 hx ⟨s2, hD2⟩
    have jl : j < xs.length := (List.getElem?_eq_some_iff.mp hx).1
    have hy : ys[j]? = some (ys[j]'(by omega)) := List.getElem?_eq_getElem (by omega)
    refine ⟨hw x, tYes_go (hs j x _ H2 hx hy s2 _ fun H4 s4 => ⟨_, s4 _ _ hD2, ?_, fun b o e => ?_, ?_⟩)⟩
    · refine small1000 ?_
      rw [List.length_take]
      omega
    · rw [upd_ne (ne_of_none e hD)]
      exact s4 _ _ (s2 _ _ e)
    · rw [upd_same, List.take_add_one, hy]
      rfl
  · rintro H2 ⟨s2, hD2⟩
    rw [List.take_of_length_le (by omega)] at hD2
    exact hd H2 s2 hD2
section
variable {X : Cx} {tg iter : Expr} {t1 t2 : TI}
theorem PI.or (h1 : PI X tg iter t1) (h2 : PI X tg iter t2) : PI X tg iter (fun σ H R => t1 σ H R ∨ t2 σ H R) := ⟨fun pins s σ H R I h => h.elim (h1.run pins s σ H R I) (h2.run pins s σ H R I)⟩
theorem PE.or {e : Expr} {u1 u2 : TE} (h1 : PE X e u1) (h2 : PE X e u2) : PE X e (fun σ H Q => u1 σ H Q ∨ u2 σ H Q) := ⟨fun pins s σ H Q I h => h.elim (h1.run pins s σ H Q I) (h2.run pins s σ H Q I)⟩
theorem pi_seq {tl : TE} (h : PE X iter tl) : PI X tg iter (fun σ H R => iList X.K tl σ H R ∨ iTup X.K tl σ H R) := PI.or (pi_list h) (pi_tup h)
end
end Ask
namespace Ask
open PySem L2 PySem.Spec PyProof.Rows PySem.AskX LamX NdefX
theorem PS.imp {X : Cx} {st : Stmt} {t t' : TS} (h : PS X st t) (i : ∀ D σ H, t' D σ H → t D σ H) : PS X st t' := ⟨fun pins s σ H D I q => h.run pins s σ H D I (i D σ H q)⟩
def spI1 (K : PySem.W.Frag) (f : Str) : Sp := fun xs H Q _ => ∃ (a C : Addr) (y : V), xs = [.ref a, y] ∧ ErrC K C ∧ PySem.W.findIn K (.ref C) f = some none ∧ H a = some (exo a C none) ∧ ∀ dx, H dx = none → dx ≠ a → Q .non (L2.upd (L2.upd H dx (exd dx [(f, y)])) a (exo a C (some dx)))
section
variable {X : Cx} {e : Expr} {es : List Expr} {ta : TA} {p pos : Pos}
theorem pmk_err {x : Str} {C fI : Addr} {k : Nat} {fd : FuncData} {ps : List Str} {sp : Sp} (T : ErrC X.K C) (ra : Raises X (.ref C)) (iC : PySem.W.findIn X.K (.ref C) "__init__" = some (some (.ref fI))) (tI : PySem.W.typeIn X.K (.ref fI) = some (.type "function"))
    (F1 : FnOk X.prog X.w X.K X.mg X.base CX0 k fI fd ps sp) (hr : Room (k + 1) X.A) (hb : Binds X.K fd ps []) (hg : Gl X x) (hm : X.mg x = some (.ref C)) (ha : PA X (e :: es) ta)
    (hdb : (x == ("__debug__" : Str)) = false := by decide) (he : starEach (e :: es) X.env = (false, eval e X.env) :: starEach es X.env := by rfl) (hpl : (backTo pos (starEach es X.env)).any (·.1) = false := by rfl) :
    PMk X (.Call (.Name x p) (e :: es) [] pos) (tMkO C sp [] ta) := by
  intro pins s σ H Q I h
  obtain ⟨T0, B, newId, T⟩ := T.ex
  obtain ⟨nm, q, N, bs, sn, sub, ab, col, dd, k0, k1, k2, k3, k5, hC⟩ := T.cls
  refine wpAny_Call_Name_kw (ld_glob I hg hm ?_ hdb)
  refine PySem.W.callWith_K (h₀ := X.base) I.ok.mod.kin T.kC (thn (ha.run pos pins s σ H _ I h) fun us s1 ⟨vs, H1, I1, r1, fits, q1⟩ => ⟨I1.kIn, ?_⟩) he hpl
  show wpAny _ _ (call (.ref C) us) _ _ _
  obtain ⟨h1, gs, dr, tk, os⟩ := s1
  have up : h1.objs.size ≤ h1.objs.size + 1 := Nat.le_succ _
  have q1 := q1 (h1.objs.size + 1) (I1.hok.fresh up)
  rw [List.append_nil] at q1
  have old : ∀ b o, h1.get? b = some o → ((h1.push (PySem.W.kdv_tup us)).push (PySem.HandSPX.excO C h1.objs.size)).get? b = some o := fun b o g => Heap.get?_push_of_some _ (Heap.get?_push_of_some _ g)
  have at_ : ((h1.push (PySem.W.kdv_tup us)).push (PySem.HandSPX.excO C h1.objs.size)).get? (h1.objs.size + 1) = some (PySem.HandSPX.excO C h1.objs.size) := by heap_get
  have J : L2.Inv X pins σ (L2.upd H1 (h1.objs.size + 1) (exo (h1.objs.size + 1) C none)) ⟨(h1.push (PySem.W.kdv_tup us)).push (PySem.HandSPX.excO C h1.objs.size), gs, dr, tk, os⟩ :=
    I1.laid (t' := tk) (a := h1.objs.size + 1) (o := exo (h1.objs.size + 1) C none) (h' := (h1.push (PySem.W.kdv_tup us)).push (PySem.HandSPX.excO C h1.objs.size)) old up (exo_ok at_)
  have rv : Vals (V.ref (h1.objs.size + 1) :: vs) (Value.ref (h1.objs.size + 1) :: us) := .cons rfl r1
  have many : (Value.ref (h1.objs.size + 1) :: us).length = ps.length := by
    rw [← F1.len _ _ _ _ q1]
    exact rv.length.symm
  have bnd := hb _ (Value.ref (h1.objs.size + 1) :: us) J.kIn (by rw [List.append_nil]; exact many)
  rw [List.append_nil] at bnd
  have fit : us.length ≤ sizeLine := by
    rw [← Paired.length r1, sizeLine_eq]
    omega
  refine wpAny_call (tl_call T.tl (I1.kIn _ _ hC) (PySem.W.looks_findIn I1.kIn iC) (fun self => PySem.W.bind_fn I1.kIn self tI) fit ?_)
  refine codeAny_mono (F1.run _ X.stack _ _ ⟨Value.ref (h1.objs.size + 1) :: us, []⟩ (Value.ref (h1.objs.size + 1) :: us) _ _ (fun _ _ _ => False) (hr.make C us []) (J.env0.make C us []) bnd rv q1) fun r s' back => ?_
  cases r with
  | error er => exact pass0 pins σ _ _ er s' J back
  | ok fl =>
    cases fl with
    | ret u =>
      obtain ⟨v, H2, os2, bare2, un2, hok2, rv2, ev, d, fs, ea, ed, hd1, q2⟩ := back
      subst ev
      obtain ⟨h2, g2, d2, t2, os'⟩ := s'
      exact ⟨rv2, mk_end ra I1 up old un2 hok2 os2 bare2 ea ed hd1 q2⟩
    | next => exact False.elim back
    | brk => exact False.elim back
    | cont => exact False.elim back
end
def spI2 (K : PySem.W.Frag) (f g : Str) : Sp := fun xs H Q _ => ∃ (a C : Addr) (y z : V), xs = [.ref a, y, z] ∧ ErrC K C ∧ PySem.W.findIn K (.ref C) f = some none ∧ PySem.W.findIn K (.ref C) g = some none ∧ H a = some (exo a C none) ∧
  ∀ dx, H dx = none → dx ≠ a → Q .non (L2.upd (L2.upd (L2.upd H dx (exd dx [(f, y)])) a (exo a C (some dx))) dx (exd dx [(g, z), (f, y)]))
/-- what stands behind the top of UnknownColumn, at C -/
structure UnkC (P : Program) (w : World) (K : PySem.W.Frag) (mg : Str → Option Value) (base : Heap) (C : Addr) : Prop where
  er : ErrC K C
  xf : XfC K C
  ex : PySem.W.subIn K (.ref C) (.type "BaseException") = some true
  ty : PySem.W.typeIn K (.ref C) = some (.type "type")
  n1 : PySem.W.findIn K (.ref C) "alias" = some none
  n2 : PySem.W.findIn K (.ref C) "word" = some none
  gC : mg "UnknownColumn" = some (.ref C)
  init : ∃ (fI : Addr) (fd : FuncData), PySem.W.findIn K (.ref C) "__init__" = some (some (.ref fI)) ∧ PySem.W.typeIn K (.ref fI) = some (.type "function") ∧ Binds K fd ["self", "alias", "word"] [] ∧ FnOk P w K mg base CX0 1 fI fd ["self", "alias", "word"] (spI2 K "alias" "word")
  self : PySem.W.exmOne K (.ref C) (.ref C) = some true
def unkF (v : V) : List (Str × V) := [(("word" : Str), v), (("alias" : Str), V.non)]
def LetsU (C : Addr) (E : XK) (H : Hp) (v : V) : Prop := ∀ (d : Addr) (H' : Hp), Same H H' → H d = none → H' d = some (.xd (unkF v)) → E (.ref C) (some d) H'
theorem ps_unk {X : Cx} {W : WX} {C : Addr} {e : Expr} {te : TE} {j : Nat} {p p2 pos pos2 : Pos} (hc : X.calm = true) (B : UnkC X.prog X.w X.K X.mg X.base C) (tk : Takes X W) (hr : Room 2 X.A) (hg : Gl X "UnknownColumn") (he : PE X e te)
    (hst : starEach [.Constant .none j p2, e] X.env = (false, eval (.Constant .none j p2) X.env) :: starEach [e] X.env := by rfl) (hs2 : starEach [e] X.env = (false, eval e X.env) :: starEach [] X.env := by rfl) (hpl : (backTo pos (starEach [e] X.env)).any (·.1) = false := by rfl) :
    PS X (.Raise (some (.Call (.Name "UnknownColumn" p) [.Constant .none j p2, e] [] pos)) none pos2) (fun _ σ H => te σ H fun v H1 => (fun (vs : List V) H1 => vs.length ≤ 1000 ∧ ∀ a, H1 a = none → spI2 X.K "alias" "word" (.ref a :: (vs ++ [])) (L2.upd H1 a (exo a C none))
      (fun v H2 => v = .non ∧ ∃ (d : Addr) (fs : List (Str × V)), H2 a = some (exo a C (some d)) ∧ H2 d = some (exd d fs) ∧ H1 d = none ∧ W (.ref C) (some d) σ (L2.upd (del H2 a) d (.xd fs))) (fun _ _ _ => False)) [.non, v] H1) := by
  obtain ⟨fI, fd, i1, i2, i3, F1⟩ := B.init
  exact ps_raise hc tk (pmk_err B.er (raises_own B.ex B.ty) i1 i2 F1 hr i3 hg B.gC (pa_cons pe_non (pa_cons he pa_nil hs2) hst) (by decide) hst hpl)
/-- what that asks -/
theorem unk_asks {K : PySem.W.Frag} {C : Addr} {H1 : Hp} {v : V} {W : Value → Option Addr → Hp → Prop} {P : Program} {w : World} {mg : Str → Option Value} {base : Heap} (B : UnkC P w K mg base C) (q : LetsU C W H1 v) :
    (fun (vs : List V) H1 => vs.length ≤ 1000 ∧ ∀ a, H1 a = none → spI2 K "alias" "word" (.ref a :: (vs ++ [])) (L2.upd H1 a (exo a C none))
      (fun v H2 => v = .non ∧ ∃ (d : Addr) (fs : List (Str × V)), H2 a = some (exo a C (some d)) ∧ H2 d = some (exd d fs) ∧ H1 d = none ∧ W (.ref C) (some d) (L2.upd (del H2 a) d (.xd fs))) (fun _ _ _ => False)) [.non, v] H1 := by
  refine ⟨(by decide : 2 ≤ 1000), fun a na => ⟨a, C, .non, v, rfl, B.er, B.n1, B.n2, upd_same, fun dx nd ne => ⟨rfl, dx, unkF v, ?_, upd_same, ?_, ?_⟩⟩⟩
  · exact (upd_ne (fun e => ne e.symm)).trans upd_same
  · rw [upd_ne ne] at nd
    exact nd
  · have nd' : H1 dx = none := by rw [upd_ne ne] at nd; exact nd
    refine q dx _ (fun b o e => ?_) nd' upd_same
    have n1 : b ≠ a := ne_of_none e na
    have n2 : b ≠ dx := ne_of_none e nd'
    rw [upd_ne n2, del_ne n1, upd_ne n2, upd_ne n1, upd_ne n2, upd_ne n1]
    exact e
structure ErW (P : Program) (w : World) (K : PySem.W.Frag) (mg : Str → Option Value) (base : Heap) (C : Addr) (nm fld : Str) : Prop where
  er : ErrC K C
  xf : XfC K C
  ex : PySem.W.subIn K (.ref C) (.type "BaseException") = some true
  ty : PySem.W.typeIn K (.ref C) = some (.type "type")
  no : PySem.W.findIn K (.ref C) fld = some none
  gC : mg nm = some (.ref C)
  init : ∃ (fI : Addr) (fd : FuncData), PySem.W.findIn K (.ref C) "__init__" = some (some (.ref fI)) ∧ PySem.W.typeIn K (.ref fI) = some (.type "function") ∧ Binds K fd ["self", fld] [] ∧ FnOk P w K mg base CX0 1 fI fd ["self", fld] (spI1 K fld)
  self : PySem.W.exmOne K (.ref C) (.ref C) = some true
def LetsF (C : Addr) (fld : Str) (E : XK) (H : Hp) (v : V) : Prop := ∀ (d : Addr) (H' : Hp), Same H H' → H d = none → H' d = some (.xd [(fld, v)]) → E (.ref C) (some d) H'
theorem LetsF.same {C : Addr} {fld : Str} {E : XK} {H H' : Hp} {v : V} (s : Same H H') (h : LetsF C fld E H v) : LetsF C fld E H' v := fun d H2 s2 nd hd => h d H2 (s.trans s2) (s.free nd) hd
abbrev tErw (K : PySem.W.Frag) (C : Addr) (fld : Str) (W : Value → Option Addr → Hp → Prop) : List V → Hp → Prop := fun vs H1 => vs.length ≤ 1000 ∧ ∀ a, H1 a = none → spI1 K fld (.ref a :: (vs ++ [])) (L2.upd H1 a (exo a C none))
      (fun v H2 => v = .non ∧ ∃ (d : Addr) (fs : List (Str × V)), H2 a = some (exo a C (some d)) ∧ H2 d = some (L2.exd d fs) ∧ H1 d = none ∧ W (.ref C) (some d) (L2.upd (del H2 a) d (.xd fs))) (fun _ _ _ => False)
theorem ps_erw {X : Cx} {W : WX} {C : Addr} {nm fld : Str} {e : Expr} {te : TE} {p pos pos2 : Pos} (hc : X.calm = true) (B : ErW X.prog X.w X.K X.mg X.base C nm fld) (tk : Takes X W) (hr : Room 2 X.A) (hg : Gl X nm) (he : PE X e te) (hdb : (nm == ("__debug__" : Str)) = false)
    (hs2 : starEach [e] X.env = (false, eval e X.env) :: starEach [] X.env := by rfl) (hpl : (backTo pos (starEach [] X.env)).any (·.1) = false := by rfl) :
    PS X (.Raise (some (.Call (.Name nm p) [e] [] pos)) none pos2) (fun _ σ H => te σ H fun v H1 => tErw X.K C fld (fun c d H => W c d σ H) [v] H1) := by
  obtain ⟨fI, fd, i1, i2, i3, F1⟩ := B.init
  exact ps_raise hc tk (pmk_err B.er (raises_own B.ex B.ty) i1 i2 F1 hr i3 hg B.gC (pa_cons he pa_nil hs2) hdb hs2 hpl)
theorem erw_asks {K : PySem.W.Frag} {C : Addr} {nm fld : Str} {H1 : Hp} {v : V} {W : Value → Option Addr → Hp → Prop} {P : Program} {w : World} {mg : Str → Option Value} {base : Heap} (B : ErW P w K mg base C nm fld) (q : LetsF C fld W H1 v) : tErw K C fld W [v] H1 := by
  refine ⟨(by decide : 1 ≤ 1000), fun a na => ⟨a, C, v, rfl, B.er, B.no, upd_same, fun dx nd ne => ⟨rfl, dx, [(fld, v)], upd_same, ?_, ?_, ?_⟩⟩⟩
  · exact (upd_ne ne).trans upd_same
  · rw [upd_ne ne] at nd
    exact nd
  · have nd' : H1 dx = none := by rw [upd_ne ne] at nd; exact nd
    refine q dx _ (fun b o e => ?_) nd' upd_same
    have n1 : b ≠ a := ne_of_none e na
    have n2 : b ≠ dx := ne_of_none e nd'
    rw [upd_ne n2, del_ne n1, upd_ne n1, upd_ne n2, upd_ne n1]
    exact e
def Tups (H H' : Hp) : Prop := ∀ p u, H p = some (.tup u) → H' p = some (.tup u)
theorem Tups.of_same {H H' : Hp} (s : Same H H') : Tups H H' := fun p u e => s p _ e
theorem Tups.trans {H H1 H2 : Hp} (a : Tups H H1) (b : Tups H1 H2) : Tups H H2 := fun p u e => b p u (a p u e)
/-! ### a question as data -/
mutual
/-- plain data of tuples that are known -/
inductive TD (H : Hp) : V → PyData → Prop
  | non : TD H .non .none
  | bl (b : Bool) : TD H (.bl b) (.bool b)
  | int (i : Int) : TD H (.int i) (.int i)
  | str (z : Str) : TD H (.str z) (.str z)
  | tup {p : Addr} {vs : List V} {ds : List PyData} (h : H p = some (.tup vs)) (r : TDs H vs ds) : TD H (.ref p) (.tuple ds)
inductive TDs (H : Hp) : List V → List PyData → Prop
  | nil : TDs H [] []
  | cons {v : V} {d : PyData} {vs : List V} {ds : List PyData} (h : TD H v d) (r : TDs H vs ds) : TDs H (v :: vs) (d :: ds)
end
mutual
theorem TD.tups {H H' : Hp} (s : Tups H H') : ∀ {v : V} {d : PyData}, TD H v d → TD H' v d
  | _, _, .non => .non
  | _, _, .bl b => .bl b
  | _, _, .int i => .int i
  | _, _, .str z => .str z
  | _, _, .tup h r => .tup (s _ _ h) (TDs.tups s r)
theorem TDs.tups {H H' : Hp} (s : Tups H H') : ∀ {vs : List V} {ds : List PyData}, TDs H vs ds → TDs H' vs ds
  | _, _, .nil => .nil
  | _, _, .cons h r => .cons (TD.tups s h) (TDs.tups s r)
end
mutual
theorem TD.dp {K : PySem.W.Frag} {H : Hp} : ∀ {v : V} {d : PyData}, TD H v d → Dp K H v d
  | _, _, .non => .non
  | _, _, .bl b => .bl b
  | _, _, .int i => .int i
  | _, _, .str z => .str z
  | _, _, .tup h r => .tup (SqT.of h) (TDs.dp r)
theorem TDs.dp {K : PySem.W.Frag} {H : Hp} : ∀ {vs : List V} {ds : List PyData}, TDs H vs ds → DpAll K H vs ds
  | _, _, .nil => .nil
  | _, _, .cons h r => .cons (TD.dp h) (TDs.dp r)
end
theorem TDs.append {H : Hp} : ∀ {vs ws : List V} {ds es : List PyData}, TDs H vs ds → TDs H ws es → TDs H (vs ++ ws) (ds ++ es)
  | _, _, _, _, .nil, h => h
  | _, _, _, _, .cons a r, h => .cons a (TDs.append r h)
theorem TDs.rev {H : Hp} : ∀ {vs : List V} {ds : List PyData}, TDs H vs ds → TDs H vs.reverse ds.reverse
  | _, _, .nil => .nil
  | _, _, .cons a r => by rw [List.reverse_cons, List.reverse_cons]; exact TDs.append (TDs.rev r) (.cons a .nil)
theorem TDs.len {H : Hp} : ∀ {vs : List V} {ds : List PyData}, TDs H vs ds → vs.length = ds.length
  | _, _, .nil => rfl
  | _, _, .cons _ r => by rw [List.length_cons, List.length_cons, TDs.len r]
end Ask
namespace Ask
open PySem L2
/-! ### the reader as plain Lean -/
/-- trees -/
inductive Tr
  | non
  | bl (b : Bool)
  | int (i : Int)
  | str (l : List Nat)
  | tup (xs : List Tr)
inductive Kd
  | word | name | int | str | par | wrong | fin
  deriving DecidableEq
structure Wd where
  k : Kd
  s : Tr
  p : Nat
/-- how a reader ends: read, the words left, how many are open; an error's place; no word in time -/
inductive Rs (α : Type)
  | ok (a : α) (ws : List Wd) (d : Int)
  | err (p : Nat)
  | stuck
abbrev PM (α : Type) := List Wd → Int → Rs α
def bnd {α β : Type} (f : PM α) (k : α → PM β) : PM β := fun ws d => match f ws d with
  | .ok a us e => k a us e
  | .err p => .err p
  | .stuck => .stuck
def ret {α : Type} (a : α) : PM α := fun ws d => .ok a ws d
def stk {α : Type} : PM α := fun _ _ => .stuck
/-! ### the cursor -/
def pFail {α : Type} : PM α := fun ws _ => match ws with
  | w :: _ => .err w.p
  | [] => .stuck
def pHolds (k : Kd) : PM Bool := fun ws d => match ws with
  | w :: _ => .ok (decide (w.k = k)) ws d
  | [] => .stuck
/-- whether it is a keyword or sign of these -/
def Wd.isIn (w : Wd) (l : List (List Nat)) : Bool := decide (w.k = .word) && match w.s with
  | .str z => decide (z ∈ l)
  | _ => false
def pSees (l : List (List Nat)) : PM Bool := fun ws d => match ws with
  | w :: _ => .ok (w.isIn l) ws d
  | [] => .stuck
def w_all : List Nat := [97, 108, 108]
def w_and : List Nat := [97, 110, 100]
def w_any : List Nat := [97, 110, 121]
def w_as : List Nat := [97, 115]
def w_by : List Nat := [98, 121]
def w_case : List Nat := [99, 97, 115, 101]
def w_coalesce : List Nat := [99, 111, 97, 108, 101, 115, 99, 101]
def w_count : List Nat := [99, 111, 117, 110, 116]
def w_cross : List Nat := [99, 114, 111, 115, 115]
def w_desc : List Nat := [100, 101, 115, 99]
def w_distinct : List Nat := [100, 105, 115, 116, 105, 110, 99, 116]
def w_else : List Nat := [101, 108, 115, 101]
def w_end : List Nat := [101, 110, 100]
def w_except : List Nat := [101, 120, 99, 101, 112, 116]
def w_exists : List Nat := [101, 120, 105, 115, 116, 115]
def w_first : List Nat := [102, 105, 114, 115, 116]
def w_from : List Nat := [102, 114, 111, 109]
def w_full : List Nat := [102, 117, 108, 108]
def w_group : List Nat := [103, 114, 111, 117, 112]
def w_having : List Nat := [104, 97, 118, 105, 110, 103]
def w_in : List Nat := [105, 110]
def w_inner : List Nat := [105, 110, 110, 101, 114]
def w_intersect : List Nat := [105, 110, 116, 101, 114, 115, 101, 99, 116]
def w_is : List Nat := [105, 115]
def w_join : List Nat := [106, 111, 105, 110]
def w_least : List Nat := [108, 101, 97, 115, 116]
def w_left : List Nat := [108, 101, 102, 116]
def w_most : List Nat := [109, 111, 115, 116]
def w_not : List Nat := [110, 111, 116]
def w_null : List Nat := [110, 117, 108, 108]
def w_on : List Nat := [111, 110]
def w_one : List Nat := [111, 110, 101]
def w_or : List Nat := [111, 114]
def w_order : List Nat := [111, 114, 100, 101, 114]
def w_select : List Nat := [115, 101, 108, 101, 99, 116]
def w_sum : List Nat := [115, 117, 109]
def w_then : List Nat := [116, 104, 101, 110]
def w_union : List Nat := [117, 110, 105, 111, 110]
def w_when : List Nat := [119, 104, 101, 110]
def w_where : List Nat := [119, 104, 101, 114, 101]
def w_le : List Nat := [60, 61]
def w_ne : List Nat := [60, 62]
def w_ge : List Nat := [62, 61]
def w_op : List Nat := [40]
def w_cl : List Nat := [41]
def w_comma : List Nat := [44]
def w_dot : List Nat := [46]
def w_star : List Nat := [42]
def w_plus : List Nat := [43]
def w_minus : List Nat := [45]
def w_eq : List Nat := [61]
def w_lt : List Nat := [60]
def w_gt : List Nat := [62]
def w_column : List Nat := [99, 111, 108, 117, 109, 110]
def w_value : List Nat := [118, 97, 108, 117, 101]
def w_param : List Nat := [112, 97, 114, 97, 109]
def w_table : List Nat := [116, 97, 98, 108, 101]
def w_question : List Nat := [113, 117, 101, 115, 116, 105, 111, 110]
def pStep : PM Tr := fun ws d => match ws with
  | w :: us => if w.isIn [w_op, w_case] then (if d = 30 then .err w.p else .ok w.s us (d + 1)) else if w.isIn [w_cl, w_end] then .ok w.s us (d - 1) else .ok w.s us d
  | [] => .stuck
def pPass (z : List Nat) : PM Bool := bnd (pSees [z]) fun b => if b then bnd pStep fun _ => ret true else ret false
def pExp (z : List Nat) : PM Unit := bnd (pPass z) fun b => if b then ret () else pFail
def pTake (k : Kd) : PM Tr := bnd (pHolds k) fun b => if b then pStep else pFail
/-- while test: body -/
def whl {α : Type} (t : PM Bool) (f : α → PM α) : Nat → α → PM α
  | 0, _ => stk
  | n + 1, a => bnd t fun b => if b then bnd (f a) (whl t f n) else ret a
/-- a loop that goes on word by word -/
def lop {α : Type} (t : PM Bool) (f : α → PM α) (a : α) : PM α := fun ws d => whl t f (ws.length + 1) a ws d
def tag (z : List Nat) (xs : List Tr) : Tr := .tup (.str z :: xs)
def iff {α : Type} (b : Bool) (f g : PM α) : PM α := if b then f else g
def opt {α : Type} (t : PM Bool) (f : PM Tr) (k : Tr → PM α) : PM α := bnd t fun b => if b then bnd f k else k .non
/-! ### the readers: W, E, O stand for questions, expressions, opened ones within one more parenthesis -/
structure Rd where
  W : PM Tr
  E : PM Tr
  O : PM (Bool × Tr)
def rKey : PM Tr := bnd (pTake .name) fun n => bnd (pPass w_desc) fun b => ret (.tup [n, .bl b])
def rColumn : PM Tr := bnd (pTake .name) fun n => bnd (pPass w_dot) fun b => if b then bnd (pTake .name) fun m => ret (tag w_column [n, m]) else ret (tag w_column [.non, n])
section
variable (R : Rd)
def rEnclosed : PM Tr := bnd (pExp w_op) fun _ => bnd R.W fun q => bnd (pExp w_cl) fun _ => ret q
def rParen : PM Tr := bnd (pExp w_op) fun _ => bnd R.E fun q => bnd (pExp w_cl) fun _ => ret q
def rChoice : PM Tr := bnd R.E fun c => bnd (pExp w_then) fun _ => bnd R.E fun e => ret (.tup [c, e])
def rCase : PM Tr := bnd (pExp w_when) fun _ => bnd (rChoice R) fun c => bnd (lop (pPass w_when) (fun cs => bnd (rChoice R) fun c => ret (cs ++ [c])) [c]) fun cs =>
  bnd (pPass w_else) fun b => if b then bnd R.E fun o => bnd (pExp w_end) fun _ => ret (tag w_case [.tup cs, o]) else bnd (pExp w_end) fun _ => ret (tag w_case [.tup cs, tag w_value [.non]])
def rCoalesce : PM Tr := bnd (pExp w_op) fun _ => bnd R.E fun e => bnd (lop (pPass w_comma) (fun es => bnd R.E fun e => ret (es ++ [e])) [e]) fun es => bnd (pExp w_cl) fun _ => ret (tag w_coalesce [.tup es])
def rCount : PM Tr := bnd (pExp w_op) fun _ => bnd (pPass w_star) fun b => if b then bnd (pExp w_cl) fun _ => ret (tag w_count [.non, .bl false]) else
  bnd (pPass w_distinct) fun b => bnd R.E fun e => bnd (pExp w_cl) fun _ => ret (tag w_count [e, .bl b])
def rBare : PM Tr := bnd (pHolds .int) fun b => if b then bnd (pTake .int) fun x => ret (tag w_value [x]) else
  bnd (pHolds .str) fun b => if b then bnd (pTake .str) fun x => ret (tag w_value [x]) else
  bnd (pHolds .par) fun b => if b then bnd (pTake .par) fun x => ret (tag w_param [x]) else
  bnd (pPass w_null) fun b => if b then ret (tag w_value [.non]) else
  bnd (pPass w_one) fun b => if b then bnd (rEnclosed R) fun q => ret (tag w_one [q]) else
  bnd (pPass w_case) fun b => if b then rCase R else
  bnd (pPass w_coalesce) fun b => if b then rCoalesce R else
  bnd (pPass w_count) fun b => if b then rCount R else
  bnd (pSees [w_sum, w_least, w_most]) fun b => if b then bnd pStep fun z => bnd (rParen R) fun e => ret (.tup [z, e]) else
  bnd (pSees [w_op]) fun b => if b then rParen R else rColumn
/-- n times ("-", ("value", 0), .. -/
def negs : Nat → Tr → Tr
  | 0, t => t
  | n + 1, t => negs n (tag w_minus [tag w_value [.int 0], t])
def nots : Nat → Tr → Tr
  | 0, t => t
  | n + 1, t => nots n (tag w_not [t])
def rFactor : PM Tr := bnd (lop (pPass w_minus) (fun n => ret (n + 1)) 0) fun n => match n with
  | 0 => rBare R
  | m + 1 => bnd (pHolds .int) fun b => if b then bnd (pTake .int) fun x => match x with
    | .int i => ret (negs m (tag w_value [.int (-i)]))
    | _ => stk
    else bnd (rBare R) fun t => ret (negs (m + 1) t)
def rProduct : PM Tr := bnd (rFactor R) fun t => lop (pPass w_star) (fun t => bnd (rFactor R) fun u => ret (tag w_star [t, u])) t
def rSum : PM Tr := bnd (rProduct R) fun t => lop (pSees [w_plus, w_minus]) (fun t => bnd pStep fun z => bnd (rProduct R) fun u => ret (.tup [z, t, u])) t
def rIs (l : Tr) : PM Tr := bnd (pPass w_not) fun b => bnd (pPass w_null) fun c => if c then ret (if b then tag w_not [tag w_null [l]] else tag w_null [l]) else bnd (rSum R) fun u => ret (if b then tag w_not [tag w_is [l, u]] else tag w_is [l, u])
def rComparison (l : Tr) : PM Tr := bnd pStep fun z => bnd (pSees [w_any, w_all]) fun b => if b then bnd pStep fun w => bnd (rEnclosed R) fun q => ret (.tup [w, z, l, q]) else bnd (rSum R) fun u => ret (.tup [z, l, u])
def cmpW : List (List Nat) := [w_eq, w_ne, w_lt, w_le, w_gt, w_ge]
def rTest : PM Tr := bnd (pPass w_exists) fun b => if b then bnd (rEnclosed R) fun q => ret (tag w_exists [q]) else
  bnd (rSum R) fun l => bnd (pSees cmpW) fun b => if b then rComparison R l else
  bnd (pPass w_is) fun b => if b then rIs R l else
  bnd (pPass w_not) fun b => if b then bnd (pExp w_in) fun _ => bnd (rEnclosed R) fun q => ret (tag w_not [tag w_in [l, q]]) else
  bnd (pPass w_in) fun b => if b then bnd (rEnclosed R) fun q => ret (tag w_in [l, q]) else ret l
def rNo : PM Tr := bnd (lop (pPass w_not) (fun n => ret (n + 1)) 0) fun n => bnd (rTest R) fun t => ret (nots n t)
def many1 (z : List Nat) (ts : List Tr) : Tr := match ts with
  | [t] => t
  | ts => tag z [.tup ts]
def rBoth : PM Tr := bnd (rNo R) fun t => bnd (lop (pPass w_and) (fun ts => bnd (rNo R) fun u => ret (ts ++ [u])) [t]) fun ts => ret (many1 w_and ts)
def rE : PM Tr := bnd (rBoth R) fun t => bnd (lop (pPass w_or) (fun ts => bnd (rBoth R) fun u => ret (ts ++ [u])) [t]) fun ts => ret (many1 w_or ts)
/-! ### sources -/
def rAliased (q : Tr) : PM Tr := bnd (pExp w_as) fun _ => bnd (pTake .name) fun n => ret (tag w_question [q, n])
def rSingle : PM Tr := bnd (pSees [w_op]) fun b => if b then bnd R.O fun x => if x.1 then rAliased x.2 else ret x.2 else
  bnd (pTake .name) fun n => bnd (pPass w_as) fun b => if b then bnd (pTake .name) fun m => ret (tag w_table [n, m]) else ret (tag w_table [n, n])
def rKind : PM Tr := bnd (pPass w_join) fun b => if b then ret (.str w_inner) else bnd pStep fun z => bnd (pExp w_join) fun _ => ret z
def rJoins (s : Tr) : PM Tr := lop (pSees [w_join, w_inner, w_left, w_full, w_cross]) (fun s => bnd rKind fun k => match k with
  | .str z => bnd (rSingle R) fun o => if z = w_cross then ret (tag w_join [.str z, s, o, .non]) else bnd (pExp w_on) fun _ => bnd (rE R) fun c => ret (tag w_join [.str z, s, o, c])
  | _ => stk) s
def rSources : PM Tr := bnd (rSingle R) fun s => bnd (rJoins R s) fun s => lop (pPass w_comma) (fun s => bnd (rSingle R) fun o => bnd (rJoins R o) fun o => ret (tag w_join [.str w_cross, s, o, .non])) s
/-! ### selects -/
def rAs (e : Tr) : PM Tr := bnd (pExp w_as) fun _ => bnd (pTake .name) fun n => ret (.tup [e, n])
def rItemCol (e : Tr) (r : List Tr) : PM Tr := match r with
  | [_, n] => bnd (pSees [w_as]) fun b => if b then rAs e else ret (.tup [e, n])
  | _ => stk
def rItem : PM Tr := bnd (rE R) fun e => match e with
  | .tup (.str z :: r) => if z = w_column then rItemCol e r else rAs e
  | _ => stk
def rItems : PM Tr := bnd (pPass w_star) fun b => if b then ret .non else bnd (rItem R) fun i => bnd (lop (pPass w_comma) (fun is => bnd (rItem R) fun i => ret (is ++ [i])) [i]) fun is => ret (.tup is)
def rGroups : PM Tr := bnd (pPass w_group) fun b => if b then bnd (pExp w_by) fun _ => bnd (pPass w_op) fun b => if b then bnd (pExp w_cl) fun _ => ret (.tup []) else
  bnd rColumn fun c => bnd (lop (pPass w_comma) (fun cs => bnd rColumn fun c => ret (cs ++ [c])) [c]) fun cs => ret (.tup cs) else ret .non
def rSelect : PM Tr := bnd (pPass w_distinct) fun dis => bnd (rItems R) fun is => bnd (pExp w_from) fun _ => bnd (rSources R) fun s => opt (pPass w_where) (rE R) fun c => bnd rGroups fun g => opt (pPass w_having) (rE R) fun h =>
  ret (tag w_select [.bl dis, is, s, c, g, h])
def rSimple : PM Tr := bnd (pPass w_select) fun b => if b then rSelect R else rEnclosed R
def rInter (s : Tr) : PM Tr := lop (pPass w_intersect) (fun s => bnd (pPass w_all) fun b => bnd (rSimple R) fun o => ret (tag w_intersect [.bl b, s, o])) s
def rBehind (s : Tr) : PM Tr := bnd (rInter R s) fun b => bnd (lop (pSees [w_union, w_except]) (fun b => bnd pStep fun z => bnd (pPass w_all) fun a => bnd (rSimple R) fun s => bnd (rInter R s) fun o => ret (.tup [z, .bl a, b, o])) b) fun b =>
  bnd (pPass w_order) fun o => if o then bnd (pExp w_by) fun _ => bnd rKey fun k => bnd (lop (pPass w_comma) (fun ks => bnd rKey fun k => ret (ks ++ [k])) [k]) fun ks =>
    opt (pPass w_first) (pTake .int) fun n => ret (tag w_first [b, .tup ks, n]) else ret b
def rWhole : PM Tr := bnd (rSimple R) fun s => rBehind R s
def rBehindOpened : PM (Bool × Tr) := bnd R.O fun x => if x.1 then bnd (pSees [w_as]) fun b => if b then bnd (rAliased x.2) fun s => bnd (rJoins R s) fun t => ret (false, t) else bnd (rBehind R x.2) fun t => ret (true, t)
  else bnd (rJoins R x.2) fun t => ret (false, t)
def rOpened : PM (Bool × Tr) := bnd (pExp w_op) fun _ => bnd (pSees [w_select]) fun b => if b then bnd (rWhole R) fun t => bnd (pExp w_cl) fun _ => ret (true, t) else
  bnd (pSees [w_op]) fun b => if b then bnd (rBehindOpened R) fun x => bnd (pExp w_cl) fun _ => ret x else bnd (rSingle R) fun s => bnd (rJoins R s) fun t => bnd (pExp w_cl) fun _ => ret (false, t)
end
def rd : Nat → Rd
  | 0 => ⟨stk, stk, stk⟩
  | n + 1 => ⟨rWhole (rd n), rE (rd n), rOpened (rd n)⟩
def rFinish : PM Unit := bnd (pHolds .fin) fun b => if b then ret () else pFail
def rQuestion : PM Tr := bnd (rd 33).W fun q => bnd rFinish fun _ => ret q
end Ask
namespace Ask
open PySem L2 PySem.Spec PyProof.Rows PySem.AskX LamX NdefX

/-! ### room for a recursion: one frame a level -/
structure Rm (k : Nat) (A : Around) : Prop where
  calm : A.handled = none
  deep : A.depth + k + 60 < recursionLimit
  many : A.units + 3 * k + 430 < cLine
theorem Rm.mono {j k : Nat} {A : Around} (r : Rm k A) (h : j ≤ k) : Rm j A := ⟨r.calm, Nat.lt_of_le_of_lt (by omega) r.deep, Nat.lt_of_le_of_lt (by omega) r.many⟩
theorem Rm.room {k : Nat} {A : Around} (r : Rm k A) : Room 14 A := ⟨r.calm, Nat.lt_of_le_of_lt (by omega) r.deep, Nat.lt_of_le_of_lt (by omega) r.many⟩
theorem Rm.deeper {k : Nat} {A : Around} (r : Rm (k + 1) A) (env : Env) : Rm k (A.deeper env) := by
  obtain ⟨r1, r2, r3⟩ := r
  refine ⟨by exact r1, ?_, ?_⟩
  · show A.depth + 1 + k + 60 < _
    omega
  · show A.units + 3 + 3 * k + 430 < _
    omega
theorem Rm.of {k j : Nat} {A : Around} (r : Room j A) (h : k + 55 ≤ 3 * j) : Rm k A := by
  obtain ⟨r1, r2, r3⟩ := r
  exact ⟨r1, by omega, by omega⟩
/-- a promise by positional values, with such room -/
def FnM (P : Program) (w : World) (K : PySem.W.Frag) (mg : Str → Option Value) (base : Heap) (k : Nat) (f : Addr) (sp : Sp) : Prop :=
  ∀ (A : Around) (outer : List Env) (s : Shared) (H : Hp) (us : List Value) (vs : List V) (Q : VK) (E : XK), Rm k A → Env0 P w K mg base A outer s H → Vals vs us → sp vs H Q E → codeAny (model P w) A (.call (.ref f) ⟨us, []⟩) (CR (L2.CX P w) outer P w H s Q E) s
section
variable {P : Program} {w : World} {K : PySem.W.Frag} {mg : Str → Option Value} {base : Heap} {j k : Nat} {f : Addr} {sp sp' : Sp}
theorem FnM.mono (F : FnM P w K mg base j f sp) (h : j ≤ k) : FnM P w K mg base k f sp := fun A outer s H us vs Q E hr e0 => F A outer s H us vs Q E (hr.mono h) e0
theorem FnM.weak (F : FnM P w K mg base k f sp) (h : ∀ vs H Q E, sp' vs H Q E → sp vs H Q E) : FnM P w K mg base k f sp' := fun A outer s H us vs Q E hr e0 r hs => F A outer s H us vs Q E hr e0 r (h vs H Q E hs)
/-- nothing is promised -/
theorem FnM.never : FnM P w K mg base k f (fun _ _ _ _ => False) := fun _ _ _ _ _ _ _ _ _ _ _ z => z.elim
/-- a def that may raise, by its body -/
theorem fnm_of {x qual : Str} {st : Stmt} {fd : FuncData} {N ps : List Str} (F : Fun K x qual st f fd) (S : FnScope N ps (defScope st)) (hb : Binds K fd ps []) (len : ∀ vs H Q E, sp vs H Q E → vs.length = ps.length)
    (body : ∀ (cdv : Value) (A : Around) (outer : List Env) (s : Shared) (H : Hp) (vs : List V) (Q : VK) (E : XK), Rm k (A.deeper (envOfC qual (defScope st) s.heap.objs.size f cdv)) → sp vs H Q E →
      ∃ t, PSs (cxOf (L2.CX P w) P w K mg base N qual (defScope st) f cdv A outer s H E) (defBody st) t ∧ t { nx := fun _ H' => Q .non H', rt := Q } (start N vs) H) : FnM P w K mg base (k + 1) f sp := by
  obtain ⟨oc, od, kV, doc, pm, an, cdv, ct, osl, rfl, lk, hcd⟩ := F.ex
  intro A outer s H us vs Q E hr e0 rv hsp
  have many := len _ _ _ _ hsp
  have kin : K.In s.heap := e0.mod.kin.keeps fun b o z => (e0.bs b o z).1
  have free : s.heap.NoLimit := e0.mod.nolimit.keeps fun b o z => (e0.bs b o z).1
  have kinds : ∀ y ∈ ps.zip us, (defScope st).names.lookup y.1 = some .local ∨ ((defScope st).names.lookup y.1 = some .cell ∧ ((cellsFrom (s.heap.objs.size + 1) (defScope st).names []).lookup y.1).isSome = true) := fun y hy =>
    (S.par y.1 (List.of_mem_zip hy).1).elim .inl fun q => .inr ⟨q, PySem.W.cellsFrom_some _ _ _ (.inl q)⟩
  have bind := hb s us kin (by rw [List.append_nil, ← rv.length]; exact many)
  rw [List.append_nil] at bind
  refine codeAny_call_function (by have := hr.deep; omega) (kin _ _ lk) rfl S.co S.gen rfl (PySem.W.codeRec_of kin hcd) (bind _ _ _ _ ?_)
  refine wpAny_newFunctionEnv_cells S.kind kinds fun env he s1 x => ?_
  subst he
  refine ⟨free.keeps x.toInCall.keep, codeAny_func ?_⟩
  obtain ⟨t, ht, hq⟩ := body cdv A outer s H vs Q E (hr.deeper _) hsp
  have I := inv_start (CX := L2.CX P w) (E := E) S hr.calm e0 many rv x
  refine wpAny_mono (ht.run [] s1 _ H _ I hq) (fun fl s' hs => ?_) fun _ _ z => z
  have done : ∀ {σ' : L2.St} {H' : Hp} {v : V} {u : Value}, L2.Inv (cxOf (L2.CX P w) P w K mg base N qual (defScope st) f cdv A outer s H E) [] σ' H' s' → RelV v u → Q v H' → CE outer P w H s Q u s' := fun J r q => ⟨_, _, J.os, J.bare, J.base, J.hok, r, q⟩
  cases fl with
  | ret u => exact let ⟨_, _, _, J, r, q⟩ := hs; done J r q
  | next => exact let ⟨_, _, J, q⟩ := hs; done (v := V.non) (u := Value.none) J rfl q
  | brk => exact let ⟨_, _, _, no⟩ := hs; no.elim
  | cont => exact let ⟨_, _, _, no⟩ := hs; no.elim
end
/-- a def of the text with such a promise -/
structure DnM (P : Program) (w : World) (K : PySem.W.Frag) (mg : Str → Option Value) (base : Heap) (k : Nat) (x : Str) (sp : Sp) : Prop where
  ex : ∃ f : Addr, mg x = some (.ref f) ∧ PySem.W.keepIn K (.ref f) = true ∧ FnM P w K mg base k f sp
section
variable {X : Cx} {k : Nat} {x : Str} {sp : Sp} {E : XK} {e : Expr} {es : List Expr} {t : TA} {p pos : Pos}
theorem run_fnm {pins : List (Addr × Obj)} {σ : L2.St} {H : Hp} {s : Shared} {f : Addr} {Q : VK} {us : List Value} {vs : List V} (F : FnM X.prog X.w X.K X.mg X.base k f sp) (hr : Rm k X.A) (hx : Passes (L2.CX X.prog X.w) X E) (I : L2.Inv X pins σ H s) (r : Vals vs us) (h : sp vs H Q E) :
    wpAny (model X.prog X.w) X.A (call (.ref f) us) (EP X pins σ Q) X.xe s := by
  refine wpAny_call (codeAny_mono (F X.A X.stack s H us vs Q E hr I.env0 r h) fun res s' back => ?_)
  cases res with
  | error u => exact hx pins σ H s u s' I back
  | ok fl =>
    cases fl with
    | ret u => exact I.after back
    | next => exact back.elim
    | brk => exact back.elim
    | cont => exact back.elim
def tCallM (sp : Sp) (E : XK) (t : TA) : TE := fun σ H Q => t σ H fun vs H1 => sp vs H1 Q E
theorem pe_dnm (D : DnM X.prog X.w X.K X.mg X.base k x sp) (hr : Rm k X.A) (hg : Gl X x) (hx : Passes (L2.CX X.prog X.w) X E) (ha : PA X (e :: es) t) (hdb : (x == ("__debug__" : Str)) = false := by decide)
    (he : starEach (e :: es) X.env = (false, eval e X.env) :: starEach es X.env := by rfl) (hpl : (backTo pos (starEach es X.env)).any (·.1) = false := by rfl) : PE X (.Call (.Name x p) (e :: es) [] pos) (tCallM sp E t) := by
  obtain ⟨f, hm, kp, F⟩ := D.ex
  refine ⟨fun pins s σ H Q I h => wpAny_Call_Name_kw (ld_glob I hg hm ?_ hdb)⟩
  exact PySem.W.callWith_K (h₀ := X.base) I.ok.mod.kin kp (thn (ha.run pos pins s σ H _ I h) fun us s1 ⟨vs, H1, I1, r, q⟩ => ⟨I1.kIn, run_fnm F hr hx I1 r q⟩) he hpl
end

/-! ### trees in the heap -/
abbrev So (l : List Nat) : Str := ⟨l.toArray⟩
mutual
inductive RtAt (H : Hp) : V → Tr → Prop
  | non : RtAt H .non .non
  | bl (b : Bool) : RtAt H (.bl b) (.bl b)
  | int (i : Int) : RtAt H (.int i) (.int i)
  | str (l : List Nat) : RtAt H (.str (So l)) (.str l)
  | tup {p : Addr} {vs : List V} {ts : List Tr} (h : H p = some (.tup vs)) (r : RtsAt H vs ts) : RtAt H (.ref p) (.tup ts)
inductive RtsAt (H : Hp) : List V → List Tr → Prop
  | nil : RtsAt H [] []
  | cons {v : V} {t : Tr} {vs : List V} {ts : List Tr} (h : RtAt H v t) (r : RtsAt H vs ts) : RtsAt H (v :: vs) (t :: ts)
end
mutual
theorem RtAt.tups {H H' : Hp} (s : Tups H H') : ∀ {v : V} {t : Tr}, RtAt H v t → RtAt H' v t
  | _, _, .non => .non
  | _, _, .bl b => .bl b
  | _, _, .int i => .int i
  | _, _, .str l => .str l
  | _, _, .tup h r => .tup (s _ _ h) (RtsAt.tups s r)
theorem RtsAt.tups {H H' : Hp} (s : Tups H H') : ∀ {vs : List V} {ts : List Tr}, RtsAt H vs ts → RtsAt H' vs ts
  | _, _, .nil => .nil
  | _, _, .cons h r => .cons (RtAt.tups s h) (RtsAt.tups s r)
end
theorem RtsAt.append {H : Hp} : ∀ {vs us : List V} {ts rs : List Tr}, RtsAt H vs ts → RtsAt H us rs → RtsAt H (vs ++ us) (ts ++ rs)
  | _, _, _, _, .nil, h => h
  | _, _, _, _, .cons a r, h => .cons a (RtsAt.append r h)
theorem RtsAt.len {H : Hp} : ∀ {vs : List V} {ts : List Tr}, RtsAt H vs ts → vs.length = ts.length
  | _, _, .nil => rfl
  | _, _, .cons _ r => congrArg (· + 1) (RtsAt.len r)

/-! ### the cursor in the heap -/
def Kd.txt : Kd → Str
  | .word => "word"
  | .name => "name"
  | .int => "integer"
  | .str => "string"
  | .par => "parameter"
  | .wrong => "wrong"
  | .fin => "end"
def WdAt (H : Hp) (v : V) (w : Wd) : Prop := ∃ (p : Addr) (u : V), v = .ref p ∧ H p = some (.tup [.str w.k.txt, u, .int w.p]) ∧ RtAt H u w.s ∧ (w.k = .word → ∃ l, w.s = .str l)
def WdsAt (H : Hp) : List V → List Wd → Prop
  | [], [] => True
  | v :: vs, w :: ws => WdAt H v w ∧ WdsAt H vs ws
  | _, _ => False
theorem WdAt.tups {H H' : Hp} (s : Tups H H') {v : V} {w : Wd} : WdAt H v w → WdAt H' v w := fun ⟨p, u, e, h, r, z⟩ => ⟨p, u, e, s _ _ h, r.tups s, z⟩
theorem WdsAt.tups {H H' : Hp} (s : Tups H H') : ∀ {vs : List V} {ws : List Wd}, WdsAt H vs ws → WdsAt H' vs ws
  | [], [], _ => trivial
  | _ :: _, _ :: _, h => ⟨h.1.tups s, WdsAt.tups s h.2⟩
  | [], _ :: _, h => h.elim
  | _ :: _, [], h => h.elim
theorem WdsAt.len {H : Hp} : ∀ {vs : List V} {ws : List Wd}, WdsAt H vs ws → vs.length = ws.length
  | [], [], _ => rfl
  | _ :: _, _ :: _, h => congrArg (· + 1) (WdsAt.len h.2)
  | [], _ :: _, h => h.elim
  | _ :: _, [], h => h.elim
theorem WdsAt.get {H : Hp} : ∀ {r : Nat} {vs : List V} {ws : List Wd} {w : Wd} {us : List Wd}, WdsAt H vs ws → ws.drop r = w :: us → ∃ v, vs[r]? = some v ∧ WdAt H v w ∧ ws.drop (r + 1) = us
  | 0, v :: _, w :: _, _, _, h, e => by
    cases e
    exact ⟨v, rfl, h.1, rfl⟩
  | r + 1, _ :: _, _ :: _, _, _, h, e => WdsAt.get (r := r) h.2 e
  | _, [], [], _, _, _, e => by simp at e
  | _, [], _ :: _, _, _, h, _ => h.elim
  | _, _ :: _, [], _, _, h, _ => h.elim
/-- all that was tracked is as it was, but for the cursor -/
structure OffA (H H' : Hp) (c : Addr) : Prop where
  keep : ∀ b o, H b = some o → b ≠ c → H' b = some o
  cell : ∀ C dx fs, H c = some (.ins C dx fs) → ∃ fs', H' c = some (.ins C dx fs') ∧ List.lookup ("_words" : Str) fs' = List.lookup ("_words" : Str) fs
instance {H H' : Hp} {c : Addr} : CoeFun (OffA H H' c) (fun _ => ∀ b o, H b = some o → b ≠ c → H' b = some o) := ⟨OffA.keep⟩
theorem OffA.of_same {H H' : Hp} {c : Addr} (s : Same H H') : OffA H H' c := ⟨fun b o h _ => s b o h, fun C dx fs h => ⟨fs, s _ _ h, rfl⟩⟩
theorem OffA.refl (H : Hp) (c : Addr) : OffA H H c := .of_same (.refl H)
theorem OffA.trans {H H1 H2 : Hp} {c : Addr} (a : OffA H H1 c) (b : OffA H1 H2 c) : OffA H H2 c := ⟨fun p o h n => b p o (a p o h n) n, fun C dx fs h => by
  obtain ⟨f1, h1, e1⟩ := a.cell C dx fs h
  obtain ⟨f2, h2, e2⟩ := b.cell C dx f1 h1
  exact ⟨f2, h2, e2.trans e1⟩⟩
theorem OffA.same {H H1 H2 : Hp} {c : Addr} (a : OffA H H1 c) (b : Same H1 H2) : OffA H H2 c := a.trans (.of_same b)
theorem OffA.new {H H1 : Hp} {c p : Addr} (a : OffA H H1 c) (hp : H1 p = none) (o : HO) : OffA H (L2.upd H1 p o) c := a.same (same_new hp o)
def curF (wa : Addr) (r : Nat) (d : Int) : List (Str × V) := [("_words", .ref wa), ("_reached", .int r), ("_depth", .int d)]
structure CurAt (CC : Addr) (H : Hp) (c : Addr) (ws : List Wd) (d : Int) : Prop where
  ex : ∃ (dx wa : Addr) (vs : List V) (all : List Wd) (r : Nat), H c = some (.ins CC dx (curF wa r d)) ∧ H wa = some (.lst vs) ∧ WdsAt H vs all ∧ all.length ≤ 10000 ∧ all.drop r = ws
theorem CurAt.ins {CC : Addr} {H : Hp} {c : Addr} {ws : List Wd} {d : Int} (h : CurAt CC H c ws d) : ∃ dx fs, H c = some (.ins CC dx fs) := let ⟨dx, _, _, _, _, e, _⟩ := h.ex; ⟨dx, _, e⟩
theorem OffA.tups {CC : Addr} {H H' : Hp} {c : Addr} {ws : List Wd} {d : Int} (o : OffA H H' c) (h : CurAt CC H c ws d) : Tups H H' := fun p u e => o p _ e fun z => by
  obtain ⟨dx, fs, e2⟩ := h.ins
  rw [← z, e] at e2
  cases e2
theorem CurAt.same {CC : Addr} {H H' : Hp} {c : Addr} {ws : List Wd} {d : Int} (s : Same H H') (h : CurAt CC H c ws d) : CurAt CC H' c ws d := by
  obtain ⟨dx, wa, vs, all, r, h1, h2, h3, h4, h5⟩ := h.ex
  exact ⟨dx, wa, vs, all, r, s _ _ h1, s _ _ h2, h3.tups (Tups.of_same s), h4, h5⟩
theorem CurAt.new {CC : Addr} {H : Hp} {c p : Addr} {ws : List Wd} {d : Int} (h : CurAt CC H c ws d) (hp : H p = none) (o : HO) : CurAt CC (L2.upd H p o) c ws d := h.same (same_new hp o)
theorem CurAt.len {CC : Addr} {H : Hp} {c : Addr} {ws : List Wd} {d : Int} (h : CurAt CC H c ws d) : ws.length ≤ 10000 := by
  obtain ⟨dx, wa, vs, all, r, h1, h2, h3, h4, rfl⟩ := h.ex
  rw [List.length_drop]
  omega

/-! ### what a reader promises -/
def Rs.to {α : Type} (r : Rs α) (ok : α → List Wd → Int → Prop) (er : Nat → Prop) : Prop := match r with
  | .ok a ws d => ok a ws d
  | .err p => er p
  | .stuck => False
theorem Rs.to_imp {α : Type} {r : Rs α} {ok ok' : α → List Wd → Int → Prop} {er er' : Nat → Prop} (h : r.to ok er) (h1 : ∀ a ws d, ok a ws d → ok' a ws d) (h2 : ∀ p, er p → er' p) : r.to ok' er' := by
  cases r with
  | ok a ws d => exact h1 _ _ _ h
  | err p => exact h2 _ h
  | stuck => exact h
theorem bnd_to {α β : Type} {f : PM α} {k : α → PM β} {ws : List Wd} {d : Int} {ok : β → List Wd → Int → Prop} {er : Nat → Prop} (h : (bnd f k ws d).to ok er) : (f ws d).to (fun a us e => (k a us e).to ok er) er := by
  unfold bnd at h
  cases e : f ws d with
  | ok a us g => rw [e] at h; exact h
  | err p => rw [e] at h; exact h
  | stuck => rw [e] at h; exact h
def ErP (CN c : Addr) (H : Hp) (E : XK) : Nat → Prop := fun p => ∀ (dx : Addr) (H' : Hp), OffA H H' c → H' dx = some (.xd [(("place" : Str), .int p)]) → E (.ref CN) (some dx) H'
theorem ErP.off {CN c : Addr} {H H1 : Hp} {E : XK} {p : Nat} (h : ErP CN c H E p) (o : OffA H H1 c) : ErP CN c H1 E p := fun dx H' o2 e => h dx H' (o.trans o2) e
def OkP {α : Type} (CC c : Addr) (A : Hp → V → α → Prop) (H : Hp) (Q : VK) : α → List Wd → Int → Prop := fun a us e => ∀ v H', OffA H H' c → CurAt CC H' c us e → A H' v a → Q v H'
theorem OkP.off {α : Type} {CC c : Addr} {A : Hp → V → α → Prop} {H H1 : Hp} {Q : VK} {a : α} {us : List Wd} {e : Int} (h : OkP CC c A H Q a us e) (o : OffA H H1 c) : OkP CC c A H1 Q a us e := fun v H' o2 hc ha => h v H' (o.trans o2) hc ha
/-- the cursor is in slot i -/
structure TP {α : Type} (CC CN : Addr) (i : Nat) (A : Hp → V → α → Prop) (f : PM α) (E : XK) (σ : L2.St) (H : Hp) (Q : VK) : Prop where
  ex : ∃ c ws d, σ[i]? = some (some (.ref c)) ∧ CurAt CC H c ws d ∧ (f ws d).to (OkP CC c A H Q) (ErP CN c H E)
abbrev tP {α : Type} (CC CN : Addr) (i : Nat) (A : Hp → V → α → Prop) (f : PM α) (E : XK) : TE := fun σ H Q => TP CC CN i A f E σ H Q
structure TPT (CC CN : Addr) (i : Nat) (f : PM Bool) (E : XK) (σ : L2.St) (H : Hp) (Q : Bool → Hp → Prop) : Prop where
  ex : ∃ c ws d, σ[i]? = some (some (.ref c)) ∧ CurAt CC H c ws d ∧ (f ws d).to (fun b us e => ∀ H', OffA H H' c → CurAt CC H' c us e → Q b H') (ErP CN c H E)
abbrev tPT (CC CN : Addr) (i : Nat) (f : PM Bool) (E : XK) : TT := fun σ H Q => TPT CC CN i f E σ H Q
/-- one argument: the cursor -/
def spC {α : Type} (CC CN : Addr) (A : Hp → V → α → Prop) (f : PM α) : Sp := fun vs H Q E => ∃ c ws d, vs = [.ref c] ∧ CurAt CC H c ws d ∧ (f ws d).to (OkP CC c A H Q) (ErP CN c H E)
/-- two: the cursor and a tree -/
def spC1 {α : Type} (CC CN : Addr) (A : Hp → V → α → Prop) (f : Tr → PM α) : Sp := fun vs H Q E => ∃ c v t ws d, vs = [.ref c, v] ∧ RtAt H v t ∧ CurAt CC H c ws d ∧ (f t ws d).to (OkP CC c A H Q) (ErP CN c H E)
def isB (_ : Hp) (v : V) (b : Bool) : Prop := v = .bl b
def isU (_ : Hp) (v : V) (_ : Unit) : Prop := v = .non
/-- (whether it is a question, tree) -/
def isO (H : Hp) (v : V) (x : Bool × Tr) : Prop := RtAt H v (.tup [.bl x.1, x.2])
section
variable {α β : Type} {CC CN c : Addr} {i : Nat} {A : Hp → V → α → Prop} {f : PM α} {k : α → PM β} {E : XK} {σ : L2.St} {H H1 : Hp} {ws : List Wd} {d : Int} {ok : β → List Wd → Int → Prop} {Q : VK}
theorem sp_go (hc : CurAt CC H1 c ws d) (o : OffA H H1 c) (h : (bnd f k ws d).to ok (ErP CN c H E))
    (go : ∀ a us e v H', OffA H H' c → OffA H1 H' c → CurAt CC H' c us e → A H' v a → (k a us e).to ok (ErP CN c H E) → Q v H') : (f ws d).to (OkP CC c A H1 Q) (ErP CN c H1 E) :=
  Rs.to_imp (bnd_to h) (fun a us e h2 v H' o2 hc2 ha => go a us e v H' (o.trans o2) o2 hc2 ha h2) fun p hp => hp.off o
theorem sp_tail (o : OffA H H1 c) (h : (f ws d).to (OkP CC c A H Q) (ErP CN c H E)) : (f ws d).to (OkP CC c A H1 Q) (ErP CN c H1 E) := Rs.to_imp h (fun a us e h2 => h2.off o) fun p hp => hp.off o
theorem goP (hσ : σ[i]? = some (some (.ref c))) (hc : CurAt CC H1 c ws d) (o : OffA H H1 c) (h : (bnd f k ws d).to ok (ErP CN c H E))
    (go : ∀ a us e v H', OffA H H' c → OffA H1 H' c → Tups H1 H' → CurAt CC H' c us e → A H' v a → (k a us e).to ok (ErP CN c H E) → Q v H') : TP CC CN i A f E σ H1 Q :=
  ⟨c, ws, d, hσ, hc, sp_go hc o h fun a us e v H' o1 o2 => go a us e v H' o1 o2 (o2.tups hc)⟩
theorem goT (hσ : σ[i]? = some (some (.ref c))) (hc : CurAt CC H1 c ws d) (o : OffA H H1 c) (h : (f ws d).to (OkP CC c A H Q) (ErP CN c H E)) : TP CC CN i A f E σ H1 Q := ⟨c, ws, d, hσ, hc, sp_tail o h⟩
theorem goB {f : PM Bool} {kt kf : PM β} {Q : Bool → Hp → Prop} (hσ : σ[i]? = some (some (.ref c))) (hc : CurAt CC H1 c ws d) (o : OffA H H1 c) (h : (bnd f (fun b => if b then kt else kf) ws d).to ok (ErP CN c H E))
    (gt : ∀ us e H', OffA H H' c → OffA H1 H' c → Tups H1 H' → CurAt CC H' c us e → (kt us e).to ok (ErP CN c H E) → Q true H') (gf : ∀ us e H', OffA H H' c → OffA H1 H' c → Tups H1 H' → CurAt CC H' c us e → (kf us e).to ok (ErP CN c H E) → Q false H') : TPT CC CN i f E σ H1 Q := by
  refine ⟨c, ws, d, hσ, hc, Rs.to_imp (bnd_to h) (fun b us e h2 H' o2 hc2 => ?_) fun p hp => hp.off o⟩
  cases b with
  | true => exact gt us e H' (o.trans o2) o2 (o2.tups hc) hc2 h2
  | false => exact gf us e H' (o.trans o2) o2 (o2.tups hc) hc2 h2
theorem rt_str {H : Hp} {z : Str} {l : List Nat} (e : z = So l) : RtAt H (.str z) (.str l) := by subst e; exact .str l
/-- a tree made anew, told -/
theorem mkT {H : Hp} {p : Addr} {vs : List V} {ts : List Tr} (hp : H p = none) (r : RtsAt H vs ts) : RtAt (L2.upd H p (.tup vs)) (.ref p) (.tup ts) := .tup upd_same (r.tups (Tups.of_same (same_new hp _)))
theorem retT {p : Addr} {vs : List V} {ts : List Tr} (h : (ret (Tr.tup ts) ws d).to (OkP CC c RtAt H Q) (ErP CN c H E)) (o : OffA H H1 c) (hc : CurAt CC H1 c ws d) (hp : H1 p = none) (r : RtsAt H1 vs ts) : Q (.ref p) (L2.upd H1 p (.tup vs)) :=
  (show OkP CC c RtAt H Q (Tr.tup ts) ws d from h) _ _ (o.new hp _) (hc.new hp _) (mkT hp r)
theorem retV {a : α} {v : V} (h : (ret a ws d).to (OkP CC c A H Q) (ErP CN c H E)) (o : OffA H H1 c) (hc : CurAt CC H1 c ws d) (r : A H1 v a) : Q v H1 := (show OkP CC c A H Q a ws d from h) _ _ o hc r
end
section
variable {X : Cx} {e : Expr} {CC CN : Addr} {i : Nat} {E : XK}
/-- a reader's answer as a test -/
theorem pt_P {f : PM Bool} (h : PE X e (tP CC CN i isB f E)) (he : ∀ all, isTrue e X.env all = (do let u ← all; standAt e.pos; holding [u] (truthy u)) := by intro _; rfl) : PT X e (tPT CC CN i f E) := by
  have z := pt_val h he
  refine ⟨fun pins s σ H Q I q => z.run pins s σ H Q I ?_⟩
  obtain ⟨c, ws, d, h1, h2, h3⟩ := q.ex
  exact ⟨c, ws, d, h1, h2, Rs.to_imp h3 (fun b us e k v H' o hc hv => ⟨b, hv, k H' o hc⟩) fun _ hp => hp⟩
end
end Ask
namespace Ask
open PySem L2 PySem.Spec PyProof.Rows PySem.AskX LamX NdefX

/-! ### Cursor: fail, holds -/
abbrev sCurI : Stmt := inClass (top 30) 0
abbrev sCurFail : Stmt := inClass (top 30) 1
abbrev sCurHolds : Stmt := inClass (top 30) 2
abbrev sCurSees : Stmt := inClass (top 30) 3
abbrev sCurStep : Stmt := inClass (top 30) 4
abbrev sCurPass : Stmt := inClass (top 30) 5
abbrev sCurExp : Stmt := inClass (top 30) 6
abbrev sCurTake : Stmt := inClass (top 30) 7
abbrev sCurFin : Stmt := inClass (top 30) 8
structure CurC (K : PySem.W.Frag) (CC : Addr) : Prop where
  cl : Cls K CC
  nw : NoAttr K CC "_words"
  nr : NoAttr K CC "_reached"
  nd : NoAttr K CC "_depth"
theorem lk_w (wa : Addr) (r : Nat) (d : Int) : List.lookup ("_words" : Str) (curF wa r d) = some (V.ref wa) := by rfl
theorem lk_r (wa : Addr) (r : Nat) (d : Int) : List.lookup ("_reached" : Str) (curF wa r d) = some (V.int r) := by rfl
theorem lk_d (wa : Addr) (r : Nat) (d : Int) : List.lookup ("_depth" : Str) (curF wa r d) = some (V.int d) := by rfl
/-- an argument more: a text, a kind -/
def spCs {α : Type} (CC CN : Addr) (A : Hp → V → α → Prop) (f : List Nat → PM α) : Sp := fun vs H Q E => ∃ c z ws d, vs = [.ref c, .str (So z)] ∧ CurAt CC H c ws d ∧ (f z ws d).to (OkP CC c A H Q) (ErP CN c H E)
def spCk {α : Type} (CC CN : Addr) (A : Hp → V → α → Prop) (f : Kd → PM α) : Sp := fun vs H Q E => ∃ c k ws d, vs = [.ref c, .str (Kd.txt k)] ∧ CurAt CC H c ws d ∧ (f k ws d).to (OkP CC c A H Q) (ErP CN c H E)
def spSees (CC CN : Addr) : Sp := fun vs H Q E => ∃ (c : Addr) (zs : List (List Nat)) (ws : List Wd) (d : Int), vs = .ref c :: zs.map (fun z => V.str (So z)) ∧ zs.length ≤ 100 ∧ CurAt CC H c ws d ∧ (pSees zs ws d).to (OkP CC c isB H Q) (ErP CN c H E)
theorem kd_eq (a b : Kd) : decide (V.str a.txt = V.str b.txt) = decide (a = b) := by cases a <;> cases b <;> rfl
section
variable {P : Program} {w : World} {K : PySem.W.Frag} {mg : Str → Option Value} {base : Heap} {CC CN : Addr} {f : Addr} {fd : FuncData}
theorem sc_cfail : FnScope ["self"] ["self"] (defScope sCurFail) := ⟨rfl, rfl, rfl, by decide +kernel, rfl, by decide +kernel, by decide +kernel⟩
theorem sc_cholds : FnScope ["self", "kind"] ["self", "kind"] (defScope sCurHolds) := ⟨rfl, rfl, rfl, by decide +kernel, rfl, by decide +kernel, by decide +kernel⟩
theorem ok_cfail (F : Fun K "fail" "Cursor.fail" sCurFail f fd) (C : CurC K CC) (B : ErW P w K mg base CN "NoQuestion" "place") : FnOk P w K mg base (L2.CX P w) 3 f fd ["self"] (spC CC CN isU pFail) := by
  refine F.okX sc_cfail (fun vs H Q E ⟨_, _, _, e, _⟩ => by rw [e]; rfl) (fun cdv A outer s H vs Q E hr h => ?_)
  obtain ⟨c, ws, d, rfl, hc, h⟩ := h
  obtain ⟨dx, wa, vs, all, r, h1, h2, h3, h4, h5⟩ := hc.ex
  refine ⟨_, pss_one (ps_erw rfl B (takes_of rfl rfl rfl rfl) hr (by rfl) (pe_ix (r := rIxT K) ix_tup (pe_ix (r := rIxL K) ix_list (pe_fld (pv 0) rfl) (pe_fld (pv 0) rfl) (fun _ _ => rfl)) pe_int (fun _ _ => rfl)) (by decide)), ?_⟩
  cases ws with
  | nil => exact h.elim
  | cons x us =>
    obtain ⟨v, hv, ⟨p, u, rfl, hp, hr2⟩, _⟩ := h3.get h5
    refine ⟨_, rfl, c, CC, dx, _, _, rfl, h1, C.cl, C.nw, lk_w _ _ _, _, rfl, c, CC, dx, _, _, rfl, h1, C.cl, C.nr, lk_r _ _ _, wa, vs, _, .ref p, rfl, rfl, SqL.of h2, atI_nat hv, p, _, 2, .int x.p, rfl, rfl, SqT.of hp, rfl, ?_⟩
    refine erw_asks B fun dx2 H' s nd hd => ?_
    exact (show ErP CN c H E x.p from h) dx2 H' (.of_same s) hd
theorem ok_cholds (F : Fun K "holds" "Cursor.holds" sCurHolds f fd) (C : CurC K CC) : FnOk P w K mg base CX0 1 f fd ["self", "kind"] (spCk CC CN isB pHolds) := by
  refine F.ok sc_cholds (fun vs H Q E ⟨_, _, _, _, e, _⟩ => by rw [e]; rfl) (fun cdv A outer s H vs Q E hr h => ?_)
  obtain ⟨c, k, ws, d, rfl, hc, q⟩ := h
  obtain ⟨dx, wa, vs, all, r, h1, h2, h3, h4, h5⟩ := id hc.ex
  cases ws with
  | nil => exact q.elim
  | cons x us =>
  obtain ⟨v, hv, ⟨p, u, rfl, hp, hr2⟩, _⟩ := h3.get h5
  refine ⟨_, pss_one (ps_ret (pe_cmpR op_eq (pe_ix (r := rIxT K) ix_tup (pe_ix (r := rIxL K) ix_list (pe_fld (pv 0) rfl) (pe_fld (pv 0) rfl) (fun _ _ => rfl)) pe_int (fun _ _ => rfl)) (pv 1) (nomark _))), ?_⟩
  refine ⟨_, rfl, c, CC, dx, _, _, rfl, h1, C.cl, C.nw, lk_w _ _ _, _, rfl, c, CC, dx, _, _, rfl, h1, C.cl, C.nr, lk_r _ _ _, wa, vs, _, .ref p, rfl, rfl, SqL.of h2, atI_nat hv, p, _, 0, .str x.k.txt, rfl, rfl, SqT.of hp, rfl, _, rfl, rfl, ?_⟩
  rw [kd_eq]
  exact (show OkP CC c isB H Q (decide (x.k = k)) (x :: us) d from q) _ _ (.refl H c) hc rfl
/-! ### sees -/
theorem So_inj {a b : List Nat} (h : So a = So b) : a = b := congrArg (fun x : Str => x.cps.toList) h
theorem in_So (z : List Nat) (l : List (List Nat)) : inV (.str (So z)) (l.map fun x => V.str (So x)) = decide (z ∈ l) := by
  have e : (l.map fun x => V.str (So x)) = (l.map So).map V.str := by rw [List.map_map]; rfl
  rw [e, inV_strs]
  refine decide_eq_decide.mpr ⟨fun h => ?_, fun h => List.mem_map.mpr ⟨z, h, rfl⟩⟩
  obtain ⟨y, m, e⟩ := List.mem_map.mp h
  rw [← So_inj e]
  exact m
/-- the module's words for kinds, its bound -/
structure RdG (mg : Str → Option Value) : Prop where
  word : ∃ t, mg "WORD" = some (.str "word" t)
  name : ∃ t, mg "NAME" = some (.str "name" t)
  int : ∃ t, mg "INTEGER" = some (.str "integer" t)
  str : ∃ t, mg "STRING" = some (.str "string" t)
  par : ∃ t, mg "PARAMETER" = some (.str "parameter" t)
  wrong : ∃ t, mg "WRONG" = some (.str "wrong" t)
  fin : ∃ t, mg "END" = some (.str "end" t)
  most : ∃ t, mg "MOST_OPEN" = some (.int 30 t)
structure MetX (P : Program) (w : World) (K : PySem.W.Frag) (mg : Str → Option Value) (base : Heap) (CC : Addr) (k : Nat) (m : Str) (sp : Sp) : Prop where
  ex : ∃ f : Addr, Meth K CC m f ∧ FnR P w K mg base (L2.CX P w) k f sp
abbrev n_csees : List Str := ["self", "choice"]
theorem sc_csees : FnScope n_csees ((["self"] : List Str) ++ [("choice" : Str)]) (defScope sCurSees) := ⟨rfl, rfl, rfl, by decide +kernel, rfl, by decide +kernel, by decide +kernel⟩
theorem ok_csees (F : Fun K "sees" "Cursor.sees" sCurSees f fd) (C : CurC K CC) (G : RdG mg) (MH : ∃ fh fdh, Meth K CC "holds" fh ∧ Binds K fdh ["self", "kind"] [] ∧ FnOk P w K mg base CX0 1 fh fdh ["self", "kind"] (spCk CC CN isB pHolds)) : FnR P w K mg base (L2.CX P w) 2 f (spSees CC CN) := by
  obtain ⟨oc, od, kV, doc, pm, an, cdv, ct, osl, rfl, lk, hcd⟩ := F.ex
  obtain ⟨fh, fdh, mh, bh, Fh⟩ := MH
  obtain ⟨t1, g1⟩ := G.word
  have R : FnR P w K mg base (L2.CX P w) (1 + 1) f _ := StX.fn_star (N := n_csees) (ps := (["self"] : List Str)) (pv := "choice") (k := 1) (CX := L2.CX P w)
    (sp := fun vs H Q E => ∃ (c q : Addr) (zs : List (List Nat)) (ws : List Wd) (d : Int), vs = [.ref c, .ref q] ∧ H q = some (.tup (zs.map (fun z => V.str (So z)))) ∧ CurAt CC H c ws d ∧ (pSees zs ws d).to (OkP CC c isB H Q) (ErP CN c H E)) lk hcd sc_csees StX.cxUp
    (fun us rest h => by
      match us, h with
      | [a], _ => cases rest with
        | nil => rfl
        | cons r rs => rfl) (fun A outer s H vs Q E hr h => ?_)
  · refine R.imp fun vs H Q E h => ?_
    obtain ⟨c, zs, ws, d, rfl, hz, hc, h⟩ := h
    refine ⟨[.ref c], _, rfl, rfl, line1000 (by rw [List.length_map]; omega), fun p hp => ?_⟩
    exact ⟨c, p, zs, ws, d, rfl, upd_same, hc.new hp _, sp_tail ((OffA.refl H c).new hp _) h⟩
  · obtain ⟨c, q, zs, ws, d, rfl, hq, hc, h⟩ := h
    obtain ⟨dx, wa, vs, all, r, h1, h2, h3, h4, h5⟩ := id hc.ex
    cases ws with
    | nil => exact h.elim
    | cons x us =>
    obtain ⟨v, hv, ⟨p, u, rfl, hp, hr2, hw⟩, _⟩ := h3.get h5
    refine ⟨_, pss_one (ps_ret (pe_and (pe_meth (pv 0) C.cl mh Fh hr bh .nil pass0 (pa_cons (pe_glob (v := .str "word") (by rfl) g1 ⟨_, rfl⟩) pa_nil)) (pe_one (pe_cmpR op_in_seq (pe_ix (r := rIxT K) ix_tup (pe_ix (r := rIxL K) ix_list (pe_fld (pv 0) rfl) (pe_fld (pv 0) rfl) (fun _ _ => rfl)) pe_int (fun _ _ => rfl)) (pv 1) (by with_unfolding_all rfl))))), ?_⟩
    have k : ∀ H', OffA H H' c → CurAt CC H' c (x :: us) d → Q (.bl (x.isIn zs)) H' := fun H' o hc' => (show OkP CC c isB H Q (x.isIn zs) (x :: us) d from h) _ _ o hc' rfl
    refine ⟨_, rfl, c, dx, _, rfl, h1, rfl, c, .word, x :: us, d, rfl, hc, ?_⟩
    intro v2 H2 o2 hc2 hv2
    obtain rfl : v2 = V.bl (decide (x.k = .word)) := hv2
    refine ⟨_, rfl, ?_⟩
    obtain ⟨dx2, wa2, vs2, all2, r2, g1, g2, g3, g4, g5⟩ := id hc2.ex
    obtain ⟨v2, hv2, ⟨p2, u2, rfl, hp2, hr3, hw2⟩, _⟩ := g3.get g5
    have hq2 : H2 q = some (.tup (zs.map (fun z => V.str (So z)))) := o2.tups hc _ _ hq
    refine ite2 (fun e => ?_) (fun e => ?_)
    · have e := of_decide_eq_true e
      obtain ⟨l, el⟩ := hw2 e
      rw [el] at hr3
      cases hr3
      refine ⟨_, rfl, c, CC, dx2, _, _, rfl, g1, C.cl, C.nw, lk_w _ _ _, _, rfl, c, CC, dx2, _, _, rfl, g1, C.cl, C.nr, lk_r _ _ _, wa2, vs2, _, .ref p2, rfl, rfl, SqL.of g2, atI_nat hv2, p2, _, 1, .str (So l), rfl, rfl, SqT.of hp2, rfl, _, rfl, q, _, rfl, .inr (SqT.of hq2), rfl, ?_, ?_⟩
      · rw [List.all_map]
        exact List.all_eq_true.mpr fun _ _ => rfl
      · have ei : x.isIn zs = inV (.str (So l)) (zs.map fun z => V.str (So z)) := by
          rw [in_So]
          unfold Wd.isIn
          rw [e, el]
          simp
        show Q (.bl (inV _ _)) H2
        rw [← ei]
        exact k H2 o2 hc2
    · have ei : x.isIn zs = false := by
        unfold Wd.isIn
        rw [Bool.eq_false_iff.mpr e]
        rfl
      have z := k H2 o2 hc2
      rw [ei] at z
      exact z
end
end Ask
namespace Ask
open PySem L2 PySem.Spec PyProof.Rows PySem.AskX LamX NdefX

/-! ### Cursor: step, passes, expect, take, finish -/
structure Met1 (P : Program) (w : World) (K : PySem.W.Frag) (mg : Str → Option Value) (base : Heap) (CC : Addr) (CX : CXT) (k : Nat) (m : Str) (ps : List Str) (sp : Sp) : Prop where
  ex : ∃ (f : Addr) (fd : FuncData), Meth K CC m f ∧ Binds K fd ps [] ∧ FnOk P w K mg base CX k f fd ps sp
theorem CurAt.mk1 {CC : Addr} {H : Hp} {c dx wa : Addr} {vs : List V} {all ws : List Wd} {r : Nat} {d : Int} (h1 : H c = some (.ins CC dx (curF wa r d))) (h2 : H wa = some (.lst vs)) (h3 : WdsAt H vs all) (h4 : all.length ≤ 10000) (h5 : all.drop r = ws) : CurAt CC H c ws d := ⟨dx, wa, vs, all, r, h1, h2, h3, h4, h5⟩
theorem CurAt.dat {CC : Addr} {H : Hp} {c : Addr} {ws : List Wd} {d : Int} (h : CurAt CC H c ws d) : ∃ dx wa r, H c = some (.ins CC dx (curF wa r d)) := let ⟨dx, wa, _, _, r, e, _⟩ := h.ex; ⟨dx, wa, r, e⟩
/-- the cursor written -/
theorem CurAt.put {CC : Addr} {H : Hp} {c dx wa : Addr} {vs : List V} {all ws : List Wd} {r r' : Nat} {d d' : Int} (h1 : H c = some (.ins CC dx (curF wa r d))) (h2 : H wa = some (.lst vs)) (h3 : WdsAt H vs all) (h4 : all.length ≤ 10000) (h5 : all.drop r' = ws) :
    CurAt CC (L2.upd H c (.ins CC dx (curF wa r' d'))) c ws d' ∧ OffA H (L2.upd H c (.ins CC dx (curF wa r' d'))) c := by
  have o : OffA H (L2.upd H c (.ins CC dx (curF wa r' d'))) c := ⟨fun b u e n => by rw [upd_ne n]; exact e, fun C dx2 fs e => by
    rw [h1] at e
    injection e with e
    injection e with e1 e2 e3
    subst e1 e2 e3
    exact ⟨_, upd_same, rfl⟩⟩
  refine ⟨⟨dx, wa, vs, all, r', upd_same, ?_, h3.tups (fun p u e => o p _ e (fun z => by rw [z, h1] at e; cases e)), h4, h5⟩, o⟩
  exact o _ _ h2 (fun z => by rw [z, h1] at h2; cases h2)
/-- a list that was made since, changed -/
theorem CurAt.lst {CC : Addr} {H0 H : Hp} {c L : Addr} {ws0 ws : List Wd} {d0 d : Int} {vs vs' : List V} (h0 : CurAt CC H0 c ws0 d0) (o : OffA H0 H c) (hL0 : H0 L = none) (ne : L ≠ c) (hc : CurAt CC H c ws d) (hL : H L = some (.lst vs)) :
    CurAt CC (L2.upd H L (.lst vs')) c ws d ∧ OffA H0 (L2.upd H L (.lst vs')) c ∧ Tups H (L2.upd H L (.lst vs')) := by
  obtain ⟨dx0, wa0, vs0, all0, r0, a1, a2, a3, a4, a5⟩ := h0.ex
  obtain ⟨dx, wa, us, all, r, b1, b2, b3, b4, b5⟩ := hc.ex
  obtain ⟨fs, e1, e2⟩ := o.cell _ _ _ a1
  rw [b1] at e1
  injection e1 with e1
  injection e1 with _ _ e3
  rw [← e3] at e2
  have e4 : wa = wa0 := V.ref.inj (Option.some.inj e2)
  have nw : wa ≠ L := fun z => by rw [e4] at z; rw [z, hL0] at a2; cases a2
  have tu : Tups H (L2.upd H L (.lst vs')) := fun p u e => by
    rw [upd_ne (fun z => by rw [z, hL] at e; cases e)]
    exact e
  refine ⟨⟨dx, wa, us, all, r, ?_, ?_, b3.tups tu, b4, b5⟩, ⟨fun b u e n => ?_, fun C dx fs e => ?_⟩, tu⟩
  · rw [upd_ne (Ne.symm ne)]; exact b1
  · rw [upd_ne nw]; exact b2
  · rw [upd_ne (fun z => by rw [z, hL0] at e; cases e)]
    exact o b u e n
  · obtain ⟨f2, h2, e2⟩ := o.cell C dx fs e
    refine ⟨f2, ?_, e2⟩
    rw [upd_ne (Ne.symm ne)]
    exact h2
theorem put_d (wa : Addr) (r : Nat) (d e : Int) : putF "_depth" (.int e) (curF wa r d) = curF wa r e := by rfl
theorem put_r (wa : Addr) (r : Nat) (d : Int) : putF "_reached" (.int ((r : Int) + 1)) (curF wa r d) = curF wa (r + 1) d := by rfl
theorem sp_B {β : Type} {CC CN c : Addr} {kt kf : PM β} {E : XK} {H H1 : Hp} {ws : List Wd} {d : Int} {ok : β → List Wd → Int → Prop} {Q : VK} {f : PM Bool} (hc : CurAt CC H1 c ws d) (o : OffA H H1 c) (h : (bnd f (fun b => if b then kt else kf) ws d).to ok (ErP CN c H E))
    (gt : ∀ us e H', OffA H H' c → OffA H1 H' c → CurAt CC H' c us e → (kt us e).to ok (ErP CN c H E) → Q (.bl true) H') (gf : ∀ us e H', OffA H H' c → OffA H1 H' c → CurAt CC H' c us e → (kf us e).to ok (ErP CN c H E) → Q (.bl false) H') : (f ws d).to (OkP CC c isB H1 Q) (ErP CN c H1 E) :=
  sp_go hc o h fun b us e v H' o1 o2 hc2 hv h2 => by
    obtain rfl : v = V.bl b := hv
    cases b with
    | true => exact gt us e H' o1 o2 hc2 h2
    | false => exact gf us e H' o1 o2 hc2 h2
section
variable {P : Program} {w : World} {K : PySem.W.Frag} {mg : Str → Option Value} {base : Heap} {CC CN : Addr} {f : Addr} {fd : FuncData}
theorem sc_cstep : FnScope ["self"] ["self"] (defScope sCurStep) := ⟨rfl, rfl, rfl, by decide +kernel, rfl, by decide +kernel, by decide +kernel⟩
theorem sc_cpass : FnScope ["self", "word"] ["self", "word"] (defScope sCurPass) := ⟨rfl, rfl, rfl, by decide +kernel, rfl, by decide +kernel, by decide +kernel⟩
theorem sc_cexp : FnScope ["self", "word"] ["self", "word"] (defScope sCurExp) := ⟨rfl, rfl, rfl, by decide +kernel, rfl, by decide +kernel, by decide +kernel⟩
theorem sc_ctake : FnScope ["self", "kind"] ["self", "kind"] (defScope sCurTake) := ⟨rfl, rfl, rfl, by decide +kernel, rfl, by decide +kernel, by decide +kernel⟩
theorem sc_cfin : FnScope ["self"] ["self"] (defScope sCurFin) := ⟨rfl, rfl, rfl, by decide +kernel, rfl, by decide +kernel, by decide +kernel⟩
theorem s_op : ("(" : Str) = So w_op := by decide +kernel
theorem s_case : ("case" : Str) = So w_case := by decide +kernel
theorem s_cl : (")" : Str) = So w_cl := by decide +kernel
theorem s_end : ("end" : Str) = So w_end := by decide +kernel
theorem pass_up {X : Cx} {E : XK} (tk : Takes X (fun cls d _ H => E cls d H)) : Passes (L2.CX X.prog X.w) X E := passes_call tk fun _ _ _ _ h => h
theorem ok_cstep (F : Fun K "step" "Cursor.step" sCurStep f fd) (C : CurC K CC) (G : RdG mg) (MS : MetX P w K mg base CC 2 "sees" (spSees CC CN)) (MF : Met1 P w K mg base CC (L2.CX P w) 3 "fail" ["self"] (spC CC CN isU pFail)) : FnOk P w K mg base (L2.CX P w) 4 f fd ["self"] (spC CC CN RtAt pStep) := by
  refine F.okX sc_cstep (fun vs H Q E ⟨_, _, _, e, _⟩ => by rw [e]; rfl) (fun cdv A outer s H vs Q E hr h => ?_)
  obtain ⟨c, ws, d, rfl, hc, h⟩ := h
  obtain ⟨fs, ms, Fs⟩ := MS.ex
  obtain ⟨ff, fdf, mf, bf, Ff⟩ := MF.ex
  obtain ⟨t1, g1⟩ := G.most
  have hr2 : Room 2 _ := hr.mono (by decide : 2 ≤ 3)
  have hx : Passes (L2.CX P w) (cxOf (L2.CX P w) P w K mg base ["self"] "Cursor.step" (defScope sCurStep) f cdv A outer s H E) E := pass_up (takes_of rfl rfl rfl rfl)
  obtain ⟨tC, hC, qC⟩ : ∃ tC, PSs (cxOf (L2.CX P w) P w K mg base ["self"] "Cursor.step" (defScope sCurStep) f cdv A outer s H E) ((defBody sCurStep).drop 2) tC ∧ ∀ (x : Wd) (us : List Wd) (d1 : Int) (H1 : Hp), CurAt CC H1 c (x :: us) d1 → OffA H H1 c →
      (∀ v H', OffA H H' c → CurAt CC H' c us d1 → RtAt H' v x.s → Q v H') → tC { nx := fun _ H' => Q .non H', rt := Q } [some (.ref c)] H1 := by
    refine ⟨_, (pss_cons (ps_fldaug (pv 0) pe_int in_add)
      (pss_one (ps_ret (pe_ix (r := rIxT K) ix_tup (pe_ix (r := rIxL K) ix_list (pe_fld (pv 0) rfl) (pe_op op_sub (pe_fld (pv 0) rfl) pe_int) (fun _ _ => rfl)) pe_int (fun _ _ => rfl))))), fun x us d1 H1 hc1 o1 q => ?_⟩
    obtain ⟨dx, wa, vs, all, r, h1, h2, h3, h4, h5⟩ := id hc1.ex
    obtain ⟨v, hv, ⟨p, u, rfl, hp, hr3, _⟩, ed⟩ := h3.get h5
    obtain ⟨hc2, o2⟩ := CurAt.put (CC := CC) (r' := r + 1) (d' := d1) h1 h2 h3 h4 ed
    refine ⟨_, rfl, c, CC, dx, _, _, rfl, h1, C.cl, C.nr, lk_r _ _ _, _, _, rfl, rfl, dx, _, h1, (by decide : 3 < 1000), ?_⟩
    rw [put_r]
    have tu := o2.tups hc1
    have h2' : (L2.upd H1 c (.ins CC dx (curF wa (r + 1) d1))) wa = some (.lst vs) := o2 _ _ h2 (fun z => by rw [z, h1] at h2; cases h2)
    refine ⟨_, rfl, c, CC, dx, _, _, rfl, upd_same, C.cl, C.nw, lk_w _ _ _, _, rfl, c, CC, dx, _, _, rfl, upd_same, C.cl, C.nr, lk_r _ _ _, _, _, rfl, rfl, wa, vs, _, .ref p, rfl, rfl, SqL.of h2', ?_, p, _, 1, u, rfl, rfl, SqT.of (tu _ _ hp), rfl, ?_⟩
    · rw [show ((r + 1 : Nat) : Int) - 1 = (r : Int) by omega]
      exact atI_nat hv
    · exact q _ _ (o1.trans o2) hc2 (hr3.tups tu)
  obtain ⟨tB, hB, qB⟩ : ∃ tB, PSs (cxOf (L2.CX P w) P w K mg base ["self"] "Cursor.step" (defScope sCurStep) f cdv A outer s H E) ((defBody sCurStep).drop 1) tB ∧ ∀ (x : Wd) (us : List Wd) (d1 : Int) (H1 : Hp), CurAt CC H1 c (x :: us) d1 → OffA H H1 c →
      (∀ v H', OffA H H' c → CurAt CC H' c us (if x.isIn [w_cl, w_end] then d1 - 1 else d1) → RtAt H' v x.s → Q v H') → tB { nx := fun _ H' => Q .non H', rt := Q } [some (.ref c)] H1 := by
    refine ⟨_, (pss_cons (ps_if (pt_val (pe_methR (E := E) (pv 0) C.cl ms Fs hr2 hx (pa_cons pe_str (pa_cons pe_str pa_nil)))) (pss_one (ps_fldaug (pv 0) pe_int in_sub)) pss_nil) hC), fun x us d1 H1 hc1 o1 q => ?_⟩
    obtain ⟨dx, wa, vs, all, r, h1, h2, h3, h4, h5⟩ := id hc1.ex
    refine ⟨_, rfl, c, dx, _, rfl, h1, rfl, c, [w_cl, w_end], x :: us, d1, ?_, (by decide : 2 ≤ 100), hc1, ?_⟩
    · rw [s_cl, s_end]; rfl
    intro v H2 o2 hc2 hv
    obtain rfl : v = V.bl (x.isIn [w_cl, w_end]) := hv
    refine ⟨_, rfl, ?_⟩
    refine ite2 (fun e => ?_) (fun e => ?_)
    · rw [e] at q
      obtain ⟨dx2, wa2, vs2, all2, r2, k1, k2, k3, k4, k5⟩ := id hc2.ex
      refine ⟨_, rfl, c, CC, dx2, _, _, rfl, k1, C.cl, C.nd, lk_d _ _ _, _, _, rfl, rfl, dx2, _, k1, (by decide : 3 < 1000), ?_⟩
      rw [put_d]
      obtain ⟨hc3, o3⟩ := CurAt.put (CC := CC) (r' := r2) (d' := d1 - 1) k1 k2 k3 k4 k5
      exact qC x us (d1 - 1) _ hc3 (o1.trans (o2.trans o3)) q
    · rw [if_neg e] at q
      exact qC x us d1 H2 hc2 (o1.trans o2) q
  refine ⟨_, pss_cons (ps_if (pt_val (pe_methR (E := E) (pv 0) C.cl ms Fs hr2 hx (pa_cons pe_str (pa_cons pe_str pa_nil))))
      (pss_cons (ps_if (pt_cmpR op_eq (pe_fld (pv 0) rfl) (pe_glob (v := .int 30) (by rfl) g1 ⟨_, rfl⟩) (nomark _)) (pss_one (ps_expr (pe_meth0 (E := E) (pv 0) C.cl mf Ff hr bf .nil hx))) pss_nil)
      (pss_one (ps_fldaug (pv 0) pe_int in_add))) pss_nil) hB, ?_⟩
  obtain ⟨dx, wa, vs, all, r, h1, h2, h3, h4, h5⟩ := id hc.ex
  cases ws with
  | nil => exact h.elim
  | cons x us =>
  have h : Rs.to (if x.isIn [w_op, w_case] then (if d = 30 then .err x.p else .ok x.s us (d + 1)) else if x.isIn [w_cl, w_end] then .ok x.s us (d - 1) else .ok x.s us d) (OkP CC c RtAt H Q) (ErP CN c H E) := h
  refine ⟨_, rfl, c, dx, _, rfl, h1, rfl, c, [w_op, w_case], x :: us, d, ?_, (by decide : 2 ≤ 100), hc, ?_⟩
  · rw [s_op, s_case]; rfl
  intro v H2 o2 hc2 hv
  obtain rfl : v = V.bl (x.isIn [w_op, w_case]) := hv
  refine ⟨_, rfl, ?_⟩
  refine ite2 (fun e => ?_) (fun e => ?_)
  · rw [if_pos e] at h
    obtain ⟨dx2, wa2, vs2, all2, r2, k1, k2, k3, k4, k5⟩ := id hc2.ex
    refine ⟨_, rfl, c, CC, dx2, _, _, rfl, k1, C.cl, C.nd, lk_d _ _ _, rfl, _, rfl, ?_⟩
    have ev : decide (V.int d = V.int 30) = decide (d = 30) := decide_eq_decide.mpr ⟨fun z => V.int.inj z, fun z => by rw [z]⟩
    rw [ev]
    refine ite2 (fun e2 => ?_) (fun e2 => ?_)
    · have e2 := of_decide_eq_true e2
      rw [if_pos e2] at h
      refine ⟨_, rfl, c, dx2, _, rfl, k1, rfl, c, x :: us, d, rfl, hc2, ?_⟩
      exact (show ErP CN c H E x.p from h).off o2
    · have e2 : ¬ d = 30 := fun z => e2 (decide_eq_true z)
      rw [if_neg e2] at h
      refine ⟨_, rfl, c, CC, dx2, _, _, rfl, k1, C.cl, C.nd, lk_d _ _ _, _, _, rfl, rfl, dx2, _, k1, (by decide : 3 < 1000), ?_⟩
      rw [put_d]
      obtain ⟨hc3, o3⟩ := CurAt.put (CC := CC) (r' := r2) (d' := d + 1) k1 k2 k3 k4 k5
      have no : x.isIn [w_cl, w_end] = false := by
        unfold Wd.isIn at e ⊢
        cases hs : x.s with
        | str l =>
          rw [hs] at e
          simp only [Bool.and_eq_true, decide_eq_true_eq] at e
          have m : l = w_op ∨ l = w_case := by simpa using e.2
          rcases m with m | m <;> rw [m] <;> simp [w_op, w_case, w_cl, w_end]
        | non => rw [hs] at e; simp at e
        | bl b => rw [hs] at e; simp at e
        | int i => rw [hs] at e; simp at e
        | tup xs => rw [hs] at e; simp at e
      refine qB x us (d + 1) _ hc3 (o2.trans o3) ?_
      rw [no]
      exact h
  · rw [if_neg e] at h
    refine qB x us d H2 hc2 o2 ?_
    by_cases e3 : x.isIn [w_cl, w_end] = true
    · rw [if_pos e3] at h ⊢
      exact h
    · rw [if_neg e3] at h ⊢
      exact h
theorem ok_cpass (F : Fun K "passes" "Cursor.passes" sCurPass f fd) (C : CurC K CC) (MS : MetX P w K mg base CC 2 "sees" (spSees CC CN)) (MT : Met1 P w K mg base CC (L2.CX P w) 4 "step" ["self"] (spC CC CN RtAt pStep)) : FnOk P w K mg base (L2.CX P w) 5 f fd ["self", "word"] (spCs CC CN isB pPass) := by
  refine F.okX sc_cpass (fun vs H Q E ⟨_, _, _, _, e, _⟩ => by rw [e]; rfl) (fun cdv A outer s H vs Q E hr h => ?_)
  obtain ⟨c, z, ws, d, rfl, hc, h⟩ := h
  obtain ⟨fs, ms, Fs⟩ := MS.ex
  obtain ⟨ft, fdt, mt, bt, Ft⟩ := MT.ex
  have hr2 : Room 2 _ := hr.mono (by decide : 2 ≤ 4)
  have hx : Passes (L2.CX P w) (cxOf (L2.CX P w) P w K mg base ["self", "word"] "Cursor.passes" (defScope sCurPass) f cdv A outer s H E) E := pass_up (takes_of rfl rfl rfl rfl)
  refine ⟨_, pss_cons (ps_if (pt_not (pt_val (pe_methR (E := E) (pv 0) C.cl ms Fs hr2 hx (pa_cons (pv 1) pa_nil)))) (pss_one (ps_ret pe_bl)) pss_nil)
    (pss_cons (ps_expr (pe_meth0 (E := E) (pv 0) C.cl mt Ft hr bt .nil hx)) (pss_one (ps_ret pe_bl))), ?_⟩
  obtain ⟨dx, wa, r, h1⟩ := hc.dat
  refine ⟨_, rfl, c, dx, _, rfl, h1, rfl, _, rfl, c, [z], ws, d, rfl, (by decide : 1 ≤ 100), hc, sp_B hc (.refl H c) h (fun us d1 H1 o1 _ hc1 h => ?_) (fun us d1 H1 o1 _ hc1 h => ?_)⟩
  · refine ⟨true, rfl, iteF ?_⟩
    obtain ⟨dx, wa, r, h1⟩ := hc1.dat
    refine ⟨_, rfl, c, dx, _, rfl, h1, rfl, c, us, d1, rfl, hc1, sp_go hc1 o1 h fun a us e v H2 o2 _ hc2 _ h => ?_⟩
    exact retV h o2 hc2 rfl
  · exact ⟨false, rfl, iteT (retV h o1 hc1 rfl)⟩
theorem ok_cexp (F : Fun K "expect" "Cursor.expect" sCurExp f fd) (C : CurC K CC) (MP : Met1 P w K mg base CC (L2.CX P w) 5 "passes" ["self", "word"] (spCs CC CN isB pPass)) (MF : Met1 P w K mg base CC (L2.CX P w) 3 "fail" ["self"] (spC CC CN isU pFail)) : FnOk P w K mg base (L2.CX P w) 6 f fd ["self", "word"] (spCs CC CN isU pExp) := by
  refine F.okX sc_cexp (fun vs H Q E ⟨_, _, _, _, e, _⟩ => by rw [e]; rfl) (fun cdv A outer s H vs Q E hr h => ?_)
  obtain ⟨c, z, ws, d, rfl, hc, h⟩ := h
  obtain ⟨fp, fdp, mp, bp, Fp⟩ := MP.ex
  obtain ⟨ff, fdf, mf, bf, Ff⟩ := MF.ex
  have hr3 : Room 3 _ := hr.mono (by decide : 3 ≤ 5)
  have hx : Passes (L2.CX P w) (cxOf (L2.CX P w) P w K mg base ["self", "word"] "Cursor.expect" (defScope sCurExp) f cdv A outer s H E) E := pass_up (takes_of rfl rfl rfl rfl)
  refine ⟨_, pss_one (ps_if (pt_not (pt_val (pe_meth (E := E) (pv 0) C.cl mp Fp hr bp .nil hx (pa_cons (pv 1) pa_nil)))) (pss_one (ps_expr (pe_meth0 (E := E) (pv 0) C.cl mf Ff hr3 bf .nil hx))) pss_nil), ?_⟩
  obtain ⟨dx, wa, r, h1⟩ := hc.dat
  refine ⟨_, rfl, c, dx, _, rfl, h1, rfl, _, rfl, c, z, ws, d, rfl, hc, sp_B hc (.refl H c) h (fun us d1 H1 o1 _ hc1 h => ?_) (fun us d1 H1 o1 _ hc1 h => ?_)⟩
  · exact ⟨true, rfl, iteF (retV h o1 hc1 rfl)⟩
  · refine ⟨false, rfl, iteT ?_⟩
    obtain ⟨dx, wa, r, h1⟩ := hc1.dat
    refine ⟨_, rfl, c, dx, _, rfl, h1, rfl, c, us, d1, rfl, hc1, ?_⟩
    have h2 : (pFail (α := Unit) us d1).to (OkP CC c isU H Q) (ErP CN c H E) := h
    cases us with
    | nil => exact h2.elim
    | cons x us => exact (show ErP CN c H E x.p from h2).off o1
theorem ok_ctake (F : Fun K "take" "Cursor.take" sCurTake f fd) (C : CurC K CC) (MH : Met1 P w K mg base CC CX0 1 "holds" ["self", "kind"] (spCk CC CN isB pHolds)) (MF : Met1 P w K mg base CC (L2.CX P w) 3 "fail" ["self"] (spC CC CN isU pFail)) (MT : Met1 P w K mg base CC (L2.CX P w) 4 "step" ["self"] (spC CC CN RtAt pStep)) : FnOk P w K mg base (L2.CX P w) 5 f fd ["self", "kind"] (spCk CC CN RtAt pTake) := by
  refine F.okX sc_ctake (fun vs H Q E ⟨_, _, _, _, e, _⟩ => by rw [e]; rfl) (fun cdv A outer s H vs Q E hr h => ?_)
  obtain ⟨c, z, ws, d, rfl, hc, h⟩ := h
  obtain ⟨fh, fdh, mh, bh, Fh⟩ := MH.ex
  obtain ⟨ff, fdf, mf, bf, Ff⟩ := MF.ex
  obtain ⟨ft, fdt, mt, bt, Ft⟩ := MT.ex
  have hr3 : Room 3 _ := hr.mono (by decide : 3 ≤ 4)
  have hr1 : Room 1 _ := hr.mono (by decide : 1 ≤ 4)
  have hx : Passes (L2.CX P w) (cxOf (L2.CX P w) P w K mg base ["self", "kind"] "Cursor.take" (defScope sCurTake) f cdv A outer s H E) E := pass_up (takes_of rfl rfl rfl rfl)
  refine ⟨_, pss_cons (ps_if (pt_not (pt_val (pe_meth (pv 0) C.cl mh Fh hr1 bh .nil pass0 (pa_cons (pv 1) pa_nil)))) (pss_one (ps_expr (pe_meth0 (E := E) (pv 0) C.cl mf Ff hr3 bf .nil hx))) pss_nil) (pss_one (ps_ret (pe_meth0 (E := E) (pv 0) C.cl mt Ft hr bt .nil hx))), ?_⟩
  obtain ⟨dx, wa, r, h1⟩ := hc.dat
  refine ⟨_, rfl, c, dx, _, rfl, h1, rfl, _, rfl, c, z, ws, d, rfl, hc, ?_⟩
  cases ws with
  | nil => exact h.elim
  | cons x us =>
  have h : (if decide (x.k = z) then pStep else pFail) (x :: us) d |>.to (OkP CC c RtAt H Q) (ErP CN c H E) := h
  intro v H1 o1 hc1 hv
  obtain rfl : v = V.bl (decide (x.k = z)) := hv
  obtain ⟨dx, wa, r, h1⟩ := hc1.dat
  refine ⟨_, rfl, ?_⟩
  cases e : decide (x.k = z) with
  | true =>
    rw [e] at h
    refine iteF ⟨_, rfl, c, dx, _, rfl, h1, rfl, c, x :: us, d, rfl, hc1, sp_tail o1 h⟩
  | false =>
    rw [e] at h
    refine iteT ⟨_, rfl, c, dx, _, rfl, h1, rfl, c, x :: us, d, rfl, hc1, ?_⟩
    exact (show ErP CN c H E x.p from h).off o1
theorem ok_cfin (F : Fun K "finish" "Cursor.finish" sCurFin f fd) (C : CurC K CC) (G : RdG mg) (MH : Met1 P w K mg base CC CX0 1 "holds" ["self", "kind"] (spCk CC CN isB pHolds)) (MF : Met1 P w K mg base CC (L2.CX P w) 3 "fail" ["self"] (spC CC CN isU pFail)) : FnOk P w K mg base (L2.CX P w) 5 f fd ["self"] (spC CC CN isU rFinish) := by
  refine F.okX sc_cfin (fun vs H Q E ⟨_, _, _, e, _⟩ => by rw [e]; rfl) (fun cdv A outer s H vs Q E hr h => ?_)
  obtain ⟨c, ws, d, rfl, hc, h⟩ := h
  obtain ⟨fh, fdh, mh, bh, Fh⟩ := MH.ex
  obtain ⟨ff, fdf, mf, bf, Ff⟩ := MF.ex
  obtain ⟨t1, g1⟩ := G.fin
  have hr3 : Room 3 _ := hr.mono (by decide : 3 ≤ 4)
  have hr1 : Room 1 _ := hr.mono (by decide : 1 ≤ 4)
  have hx : Passes (L2.CX P w) (cxOf (L2.CX P w) P w K mg base ["self"] "Cursor.finish" (defScope sCurFin) f cdv A outer s H E) E := pass_up (takes_of rfl rfl rfl rfl)
  refine ⟨_, pss_one (ps_if (pt_not (pt_val (pe_meth (pv 0) C.cl mh Fh hr1 bh .nil pass0 (pa_cons (pe_glob (v := .str "end") (by rfl) g1 ⟨_, rfl⟩) pa_nil)))) (pss_one (ps_expr (pe_meth0 (E := E) (pv 0) C.cl mf Ff hr3 bf .nil hx))) pss_nil), ?_⟩
  obtain ⟨dx, wa, r, h1⟩ := hc.dat
  refine ⟨_, rfl, c, dx, _, rfl, h1, rfl, c, .fin, ws, d, rfl, hc, ?_⟩
  cases ws with
  | nil => exact h.elim
  | cons x us =>
  have h : (if decide (x.k = .fin) then ret () else pFail) (x :: us) d |>.to (OkP CC c isU H Q) (ErP CN c H E) := h
  intro v H1 o1 hc1 hv
  obtain rfl : v = V.bl (decide (x.k = .fin)) := hv
  obtain ⟨dx, wa, r, h1⟩ := hc1.dat
  refine ⟨_, rfl, ?_⟩
  cases e : decide (x.k = .fin) with
  | true =>
    rw [e] at h
    refine iteF (retV h o1 hc1 rfl)
  | false =>
    rw [e] at h
    refine iteT ⟨_, rfl, c, dx, _, rfl, h1, rfl, c, x :: us, d, rfl, hc1, ?_⟩
    exact (show ErP CN c H E x.p from h).off o1
end
end Ask
namespace Ask
open PySem L2 PySem.Spec PyProof.Rows PySem.AskX LamX NdefX

/-! ### the cursor's calls as rules -/
structure Cur (P : Program) (w : World) (K : PySem.W.Frag) (mg : Str → Option Value) (base : Heap) (CC CN : Addr) : Prop where
  cc : CurC K CC
  g : RdG mg
  sees : MetX P w K mg base CC 2 "sees" (spSees CC CN)
  bsees : ∃ f, BMeth K CC "sees" f ∧ FnR P w K mg base (L2.CX P w) 2 f (spSees CC CN)
  fail : Met1 P w K mg base CC (L2.CX P w) 3 "fail" ["self"] (spC CC CN isU pFail)
  holds : Met1 P w K mg base CC CX0 1 "holds" ["self", "kind"] (spCk CC CN isB pHolds)
  step : Met1 P w K mg base CC (L2.CX P w) 4 "step" ["self"] (spC CC CN RtAt pStep)
  passes : Met1 P w K mg base CC (L2.CX P w) 5 "passes" ["self", "word"] (spCs CC CN isB pPass)
  expect : Met1 P w K mg base CC (L2.CX P w) 6 "expect" ["self", "word"] (spCs CC CN isU pExp)
  take : Met1 P w K mg base CC (L2.CX P w) 5 "take" ["self", "kind"] (spCk CC CN RtAt pTake)
  finish : Met1 P w K mg base CC (L2.CX P w) 5 "finish" ["self"] (spC CC CN isU rFinish)
def Kd.gl : Kd → Str
  | .word => "WORD"
  | .name => "NAME"
  | .int => "INTEGER"
  | .str => "STRING"
  | .par => "PARAMETER"
  | .wrong => "WRONG"
  | .fin => "END"
theorem RdG.at {mg : Str → Option Value} (G : RdG mg) (k : Kd) : ∃ t, mg k.gl = some (.str k.txt t) := by
  cases k
  · exact G.word
  · exact G.name
  · exact G.int
  · exact G.str
  · exact G.par
  · exact G.wrong
  · exact G.fin
/-- the shape of a method's call -/
abbrev HtM (X : Cx) (o : Expr) (m : Str) (ap pos : Pos) (es : List Expr) (pl : Sem Bool) : Prop := eval (.Call (.Attribute o m ap) es [] pos) X.env = (do let u ← eval o X.env; standAt ap.atName; let (g, one) ← holding [u] (getMethod u m pl); callWith pos g one (backTo pos (starEach es X.env)) (backToKw pos (keywordEach [] X.env)))
section
variable {X : Cx} {CC CN : Addr} {E : XK} {pl : Sem Bool} {p ap pos q q1 q2 q3 q4 q5 : Pos} {z z1 z2 z3 z4 z5 : Str} {l l1 l2 l3 l4 l5 : List Nat} {j j1 j2 j3 j4 j5 : Nat}
theorem pe_cStep (M : Cur X.prog X.w X.K X.mg X.base CC CN) (hr : Room 14 X.A) (hx : Passes (L2.CX X.prog X.w) X E) (ho : PE X (.Name "cursor" p) (tVar 0)) (ht : HtM X (.Name "cursor" p) "step" ap pos [] pl := by rfl) : PE X (.Call (.Attribute (.Name "cursor" p) "step" ap) [] [] pos) (tP CC CN 0 RtAt pStep E) := by
  obtain ⟨f, fd, m, b, F⟩ := M.step.ex
  refine PE.imp (pe_meth0 (E := E) ho M.cc.cl m F (hr.mono (by decide)) b .nil hx (ht := ht)) fun σ H Q h => ?_
  obtain ⟨c, ws, d, h1, hc, h2⟩ := h.ex
  obtain ⟨dx, wa, r, h3⟩ := hc.dat
  exact ⟨_, h1, c, dx, _, rfl, h3, rfl, c, ws, d, rfl, hc, h2⟩
theorem pe_cPass (M : Cur X.prog X.w X.K X.mg X.base CC CN) (hr : Room 14 X.A) (hx : Passes (L2.CX X.prog X.w) X E) (ho : PE X (.Name "cursor" p) (tVar 0)) (hz : z = So l) (ht : HtM X (.Name "cursor" p) "passes" ap pos [.Constant (.str z) j q] pl := by rfl) : PE X (.Call (.Attribute (.Name "cursor" p) "passes" ap) [.Constant (.str z) j q] [] pos) (tP CC CN 0 isB (pPass l) E) := by
  obtain ⟨f, fd, m, b, F⟩ := M.passes.ex
  refine PE.imp (pe_meth (E := E) ho M.cc.cl m F (hr.mono (by decide)) b .nil hx (pa_cons pe_str pa_nil) (ht := ht)) fun σ H Q h => ?_
  obtain ⟨c, ws, d, h1, hc, h2⟩ := h.ex
  obtain ⟨dx, wa, r, h3⟩ := hc.dat
  exact ⟨_, h1, c, dx, _, rfl, h3, rfl, c, l, ws, d, by rw [hz]; rfl, hc, h2⟩
theorem pe_cExp (M : Cur X.prog X.w X.K X.mg X.base CC CN) (hr : Room 14 X.A) (hx : Passes (L2.CX X.prog X.w) X E) (ho : PE X (.Name "cursor" p) (tVar 0)) (hz : z = So l) (ht : HtM X (.Name "cursor" p) "expect" ap pos [.Constant (.str z) j q] pl := by rfl) : PE X (.Call (.Attribute (.Name "cursor" p) "expect" ap) [.Constant (.str z) j q] [] pos) (tP CC CN 0 isU (pExp l) E) := by
  obtain ⟨f, fd, m, b, F⟩ := M.expect.ex
  refine PE.imp (pe_meth (E := E) ho M.cc.cl m F (hr.mono (by decide)) b .nil hx (pa_cons pe_str pa_nil) (ht := ht)) fun σ H Q h => ?_
  obtain ⟨c, ws, d, h1, hc, h2⟩ := h.ex
  obtain ⟨dx, wa, r, h3⟩ := hc.dat
  exact ⟨_, h1, c, dx, _, rfl, h3, rfl, c, l, ws, d, by rw [hz]; rfl, hc, h2⟩
theorem pe_cTake {g : Str} (k : Kd) (M : Cur X.prog X.w X.K X.mg X.base CC CN) (hr : Room 14 X.A) (hx : Passes (L2.CX X.prog X.w) X E) (ho : PE X (.Name "cursor" p) (tVar 0)) (hk : g = k.gl) (hg : Gl X g) (hd : (g == ("__debug__" : Str)) = false := by decide) (ht : HtM X (.Name "cursor" p) "take" ap pos [.Name g q] pl := by rfl) : PE X (.Call (.Attribute (.Name "cursor" p) "take" ap) [.Name g q] [] pos) (tP CC CN 0 RtAt (pTake k) E) := by
  obtain ⟨f, fd, m, b, F⟩ := M.take.ex
  obtain ⟨t, hv⟩ := M.g.at k
  subst hk
  refine PE.imp (pe_meth (E := E) ho M.cc.cl m F (hr.mono (by decide)) b .nil hx (pa_cons (pe_glob (v := .str k.txt) hg hv ⟨_, rfl⟩ hd) pa_nil) (ht := ht)) fun σ H Q h => ?_
  obtain ⟨c, ws, d, h1, hc, h2⟩ := h.ex
  obtain ⟨dx, wa, r, h3⟩ := hc.dat
  exact ⟨_, h1, c, dx, _, rfl, h3, rfl, c, k, ws, d, rfl, hc, h2⟩
theorem pe_cHold {g : Str} (k : Kd) (M : Cur X.prog X.w X.K X.mg X.base CC CN) (hr : Room 14 X.A) (ho : PE X (.Name "cursor" p) (tVar 0)) (hk : g = k.gl) (hg : Gl X g) (hd : (g == ("__debug__" : Str)) = false := by decide) (ht : HtM X (.Name "cursor" p) "holds" ap pos [.Name g q] pl := by rfl) : PE X (.Call (.Attribute (.Name "cursor" p) "holds" ap) [.Name g q] [] pos) (tP CC CN 0 isB (pHolds k) E) := by
  obtain ⟨f, fd, m, b, F⟩ := M.holds.ex
  obtain ⟨t, hv⟩ := M.g.at k
  subst hk
  refine PE.imp (pe_meth ho M.cc.cl m F (hr.mono (by decide)) b .nil pass0 (pa_cons (pe_glob (v := .str k.txt) hg hv ⟨_, rfl⟩ hd) pa_nil) (ht := ht)) fun σ H Q h => ?_
  obtain ⟨c, ws, d, h1, hc, h2⟩ := h.ex
  obtain ⟨dx, wa, r, h3⟩ := hc.dat
  refine ⟨_, h1, c, dx, _, rfl, h3, rfl, c, k, ws, d, rfl, hc, ?_⟩
  cases ws with
  | nil => exact h2
  | cons x us => exact h2
theorem pe_cSees {es : List Expr} {e : Expr} {t : TA} (zs : List (List Nat)) (M : Cur X.prog X.w X.K X.mg X.base CC CN) (hr : Room 14 X.A) (hx : Passes (L2.CX X.prog X.w) X E) (ho : PE X (.Name "cursor" p) (tVar 0)) (ha : PA X (e :: es) t) (ex : ∀ σ H Q, Q (zs.map fun z => V.str (So z)) H → t σ H Q) (h100 : zs.length ≤ 100)
    (hst : starEach (e :: es) X.env = (false, eval e X.env) :: starEach es X.env := by rfl) (hpl : (backTo pos (starEach es X.env)).any (·.1) = false := by rfl) (ht : HtM X (.Name "cursor" p) "sees" ap pos (e :: es) pl := by rfl) :
    PE X (.Call (.Attribute (.Name "cursor" p) "sees" ap) (e :: es) [] pos) (tP CC CN 0 isB (pSees zs) E) := by
  obtain ⟨f, m, F⟩ := M.sees.ex
  refine PE.imp (pe_methR (E := E) ho M.cc.cl m F (hr.mono (by decide)) hx ha hst hpl ht) fun σ H Q h => ?_
  obtain ⟨c, ws, d, h1, hc, h2⟩ := h.ex
  obtain ⟨dx, wa, r, h3⟩ := hc.dat
  exact ⟨_, h1, c, dx, _, rfl, h3, rfl, ex _ _ _ ⟨c, zs, ws, d, rfl, h100, hc, h2⟩⟩
theorem pe_cSees1 (M : Cur X.prog X.w X.K X.mg X.base CC CN) (hr : Room 14 X.A) (hx : Passes (L2.CX X.prog X.w) X E) (ho : PE X (.Name "cursor" p) (tVar 0)) (h1 : z1 = So l1) (ht : HtM X (.Name "cursor" p) "sees" ap pos [.Constant (.str z1) j1 q1] pl := by rfl) : PE X (.Call (.Attribute (.Name "cursor" p) "sees" ap) [.Constant (.str z1) j1 q1] [] pos) (tP CC CN 0 isB (pSees [l1]) E) :=
  pe_cSees [l1] M hr hx ho (pa_cons pe_str pa_nil) (fun σ H Q h => by subst h1; exact h) (by decide : 1 ≤ 100) (ht := ht)
theorem pe_cSees2 (M : Cur X.prog X.w X.K X.mg X.base CC CN) (hr : Room 14 X.A) (hx : Passes (L2.CX X.prog X.w) X E) (ho : PE X (.Name "cursor" p) (tVar 0)) (h1 : z1 = So l1) (h2 : z2 = So l2) (ht : HtM X (.Name "cursor" p) "sees" ap pos [.Constant (.str z1) j1 q1, .Constant (.str z2) j2 q2] pl := by rfl) : PE X (.Call (.Attribute (.Name "cursor" p) "sees" ap) [.Constant (.str z1) j1 q1, .Constant (.str z2) j2 q2] [] pos) (tP CC CN 0 isB (pSees [l1, l2]) E) :=
  pe_cSees [l1, l2] M hr hx ho (pa_cons pe_str (pa_cons pe_str pa_nil)) (fun σ H Q h => by subst h1 h2; exact h) (by decide : 2 ≤ 100) (ht := ht)
theorem pe_cSees3 (M : Cur X.prog X.w X.K X.mg X.base CC CN) (hr : Room 14 X.A) (hx : Passes (L2.CX X.prog X.w) X E) (ho : PE X (.Name "cursor" p) (tVar 0)) (h1 : z1 = So l1) (h2 : z2 = So l2) (h3 : z3 = So l3) (ht : HtM X (.Name "cursor" p) "sees" ap pos [.Constant (.str z1) j1 q1, .Constant (.str z2) j2 q2, .Constant (.str z3) j3 q3] pl := by rfl) : PE X (.Call (.Attribute (.Name "cursor" p) "sees" ap) [.Constant (.str z1) j1 q1, .Constant (.str z2) j2 q2, .Constant (.str z3) j3 q3] [] pos) (tP CC CN 0 isB (pSees [l1, l2, l3]) E) :=
  pe_cSees [l1, l2, l3] M hr hx ho (pa_cons pe_str (pa_cons pe_str (pa_cons pe_str pa_nil))) (fun σ H Q h => by subst h1 h2 h3; exact h) (by decide : 3 ≤ 100) (ht := ht)
theorem pe_cSees5 (M : Cur X.prog X.w X.K X.mg X.base CC CN) (hr : Room 14 X.A) (hx : Passes (L2.CX X.prog X.w) X E) (ho : PE X (.Name "cursor" p) (tVar 0)) (h1 : z1 = So l1) (h2 : z2 = So l2) (h3 : z3 = So l3) (h4 : z4 = So l4) (h5 : z5 = So l5) (ht : HtM X (.Name "cursor" p) "sees" ap pos [.Constant (.str z1) j1 q1, .Constant (.str z2) j2 q2, .Constant (.str z3) j3 q3, .Constant (.str z4) j4 q4, .Constant (.str z5) j5 q5] pl := by rfl) : PE X (.Call (.Attribute (.Name "cursor" p) "sees" ap) [.Constant (.str z1) j1 q1, .Constant (.str z2) j2 q2, .Constant (.str z3) j3 q3, .Constant (.str z4) j4 q4, .Constant (.str z5) j5 q5] [] pos) (tP CC CN 0 isB (pSees [l1, l2, l3, l4, l5]) E) :=
  pe_cSees [l1, l2, l3, l4, l5] M hr hx ho (pa_cons pe_str (pa_cons pe_str (pa_cons pe_str (pa_cons pe_str (pa_cons pe_str pa_nil))))) (fun σ H Q h => by subst h1 h2 h3 h4 h5; exact h) (by decide : 5 ≤ 100) (ht := ht)
/-- cursor.sees( *words), the words in a tuple -/
theorem pe_cSeesS {e : Expr} {v : V} {sp : Pos} (zs : List (List Nat)) (M : Cur X.prog X.w X.K X.mg X.base CC CN) (hr : Room 14 X.A) (hx : Passes (L2.CX X.prog X.w) X E) (ho : PE X (.Name "cursor" p) (tVar 0)) (he : PE X e (tC v)) (hv : ∃ a, v = .ref a ∧ ∀ H, SqT X.K H a (zs.map fun z => V.str (So z))) (h100 : zs.length ≤ 100) (hb : attributeBase (.Name "cursor" p) "sees" X.env (eval (.Name "cursor" p) X.env) = eval (.Name "cursor" p) X.env := by rfl) :
    PE X (.Call (.Attribute (.Name "cursor" p) "sees" ap) [.Starred e sp] [] pos) (tP CC CN 0 isB (pSees zs) E) := by
  obtain ⟨f, m, F⟩ := M.bsees
  obtain ⟨a, rfl, hv⟩ := hv
  refine PE.imp (pe_methS (E := E) ho M.cc.cl m F (hr.mono (by decide)) hx he hb) fun σ H Q h => ?_
  obtain ⟨c, ws, d, h1, hc, h2⟩ := h.ex
  obtain ⟨dx, wa, r, h3⟩ := hc.dat
  refine ⟨_, h1, c, dx, _, rfl, h3, rfl, fun q hq => ⟨a, _, rfl, hv _, upd_same, c, zs, ws, d, rfl, h100, hc.new hq _, ?_⟩⟩
  exact sp_tail ((OffA.refl H c).new hq _) h2
/-! ### a reader's calls -/
variable {α : Type} {A : Hp → V → α → Prop} {k : Nat} {x : Str} {f : PM α} {g : Tr → PM α}
theorem pe_rd (D : DnM X.prog X.w X.K X.mg X.base k x (spC CC CN A f)) (hr : Rm k X.A) (hg : Gl X x) (hx : Passes (L2.CX X.prog X.w) X E) (ho : PE X (.Name "cursor" p) (tVar 0)) (hdb : (x == ("__debug__" : Str)) = false := by decide) : PE X (.Call (.Name x q) [.Name "cursor" p] [] pos) (tP CC CN 0 A f E) :=
  PE.imp (pe_dnm D hr hg hx (pa_cons ho pa_nil) hdb) fun σ H Q h => by
    obtain ⟨c, ws, d, h1, hc, h2⟩ := h.ex
    exact ⟨_, h1, c, ws, d, rfl, hc, h2⟩
/-- read_x(cursor, e) -/
def tP1 (CC CN : Addr) (A : Hp → V → α → Prop) (g : Tr → PM α) (E : XK) (te : TE) : TE := fun σ H Q => ∃ c, σ[0]? = some (some (.ref c)) ∧ te σ H fun v H1 => spC1 CC CN A g [.ref c, v] H1 Q E
theorem pe_rd1 {e : Expr} {te : TE} (D : DnM X.prog X.w X.K X.mg X.base k x (spC1 CC CN A g)) (hr : Rm k X.A) (hg : Gl X x) (hx : Passes (L2.CX X.prog X.w) X E) (ho : PE X (.Name "cursor" p) (tVar 0)) (he : PE X e te) (hdb : (x == ("__debug__" : Str)) = false := by decide)
    (h1 : starEach [e] X.env = (false, eval e X.env) :: starEach [] X.env := by rfl) (h2 : (backTo pos (starEach [e] X.env)).any (·.1) = false := by rfl) : PE X (.Call (.Name x q) [.Name "cursor" p, e] [] pos) (tP1 CC CN A g E te) :=
  PE.imp (pe_dnm D hr hg hx (pa_cons ho (pa_cons he pa_nil h1)) hdb (by rfl) h2) fun σ H Q h => by
    obtain ⟨c, h1, h2⟩ := h
    exact ⟨_, h1, h2⟩
end
end Ask
namespace Ask
open PySem L2 PySem.Spec PyProof.Rows PySem.AskX LamX NdefX
/-! ### tuple(xs), xs a list -/
def rTupL (K : PySem.W.Frag) : List V → Hp → VK → Prop := fun xs H Q => ∃ (p : Addr) (ys : List V), xs = [.ref p] ∧ SqL K H p ys ∧ ∀ q : Addr, H q = none → Q (.ref q) (L2.upd H q (.tup ys))
theorem cr_tupL {X : Cx} : CallR X (.type "tuple") (rTupL X.K) := fun pins s σ H xs us Q I r ⟨p, ys, e, hs, q⟩ => call_tuple_of pins s σ H xs us Q I r ⟨p, ys, e, .inl ⟨hs, q⟩⟩
/-! ### while, over the cursor -/
theorem whl_go {α β : Type} {CC CN c : Addr} {H0 : Hp} {E : XK} {tb : TS} {D : Ends} {t : PM Bool} {f : α → PM α} {k : α → PM β} {ok : β → List Wd → Int → Prop} {a : α} {σ : L2.St} {H : Hp} {ws : List Wd} {d : Int} (R : Nat → α → L2.St → Hp → Prop)
    (slot : ∀ {n a σ H}, R n a σ H → σ[0]? = some (some (.ref c)))
    (keep : ∀ {n a σ H H' ws d}, R n a σ H → CurAt CC H c ws d → OffA H0 H c → OffA H H' c → R n a σ H')
    (hb : ∀ n a σ H ws d (D' : Ends), D'.rt = D.rt → OffA H0 H c → CurAt CC H c ws d → R (n + 1) a σ H → (f a ws d).to (fun a' us e => ∀ σ' H', OffA H0 H' c → CurAt CC H' c us e → R n a' σ' H' → D'.nx σ' H') (ErP CN c H0 E) → tb D' σ H)
    (hc : CurAt CC H c ws d) (o : OffA H0 H c) (h : (bnd (lop t f a) k ws d).to ok (ErP CN c H0 E)) (hR : R (ws.length + 1) a σ H)
    (fin : ∀ n a us e σ' H', OffA H0 H' c → CurAt CC H' c us e → R n a σ' H' → (k a us e).to ok (ErP CN c H0 E) → D.nx σ' H') : tWhile (tPT CC CN 0 t E) tb D σ H := by
  refine ⟨fun m σ H => ∃ a ws d, OffA H0 H c ∧ CurAt CC H c ws d ∧ R m a σ H ∧ (whl t f m a ws d).to (fun a us e => (k a us e).to ok (ErP CN c H0 E)) (ErP CN c H0 E), ⟨ws.length + 1, a, ws, d, o, hc, hR, bnd_to h⟩, ?_⟩
  rintro m σ H ⟨a, ws, d, o, hc, hR, h⟩
  cases m with
  | zero => exact h.elim
  | succ n =>
    refine ⟨c, ws, d, slot hR, hc, Rs.to_imp (bnd_to h) (fun b us e h2 H' o2 hc2 => ?_) fun p hp => hp.off o⟩
    have R2 := keep hR hc o o2
    cases b with
    | true =>
      refine iteT ⟨fun σ' H' => ∃ a ws d, OffA H0 H' c ∧ CurAt CC H' c ws d ∧ R n a σ' H' ∧ (whl t f n a ws d).to (fun a us e => (k a us e).to ok (ErP CN c H0 E)) (ErP CN c H0 E), fun σ' H' w => ⟨n, Nat.lt_succ_self n, w⟩, ?_⟩
      refine hb n a σ H' us e _ rfl (o.trans o2) hc2 R2 ?_
      have h3 := bnd_to (show (bnd (f a) (whl t f n) us e).to _ _ from h2)
      exact Rs.to_imp h3 (fun a2 us2 e2 h4 σ' H2 o3 hc3 hR3 => ⟨a2, us2, e2, o3, hc3, hR3, h4⟩) fun _ hp => hp
    | false => exact iteF (fin _ a us e σ H' (o.trans o2) hc2 R2 h2)
theorem bnd_assoc {α β γ : Type} {f : PM α} {g : α → PM β} {k : β → PM γ} {ws : List Wd} {d : Int} : bnd (bnd f g) k ws d = bnd f (fun a => bnd (g a) k) ws d := by
  unfold bnd
  cases f ws d <;> rfl
theorem bnd_ret {α β : Type} {a : α} {k : α → PM β} {ws : List Wd} {d : Int} : bnd (ret a) k ws d = k a ws d := rfl
theorem bnd_eta {α : Type} {f : PM α} {ws : List Wd} {d : Int} : bnd f (fun a => ret a) ws d = f ws d := by
  unfold bnd ret
  cases f ws d <;> rfl
theorem to_ret {α : Type} {f : PM α} {ws : List Wd} {d : Int} {ok : α → List Wd → Int → Prop} {er : Nat → Prop} (h : (f ws d).to ok er) : (bnd f (fun a => ret a) ws d).to ok er := by rw [bnd_eta]; exact h
theorem ret_to {α : Type} {a : α} {ws : List Wd} {d : Int} {ok : α → List Wd → Int → Prop} {er : Nat → Prop} (h : (ret a ws d).to ok er) : ok a ws d := h
theorem off_new {CC : Addr} {H H1 : Hp} {c L : Addr} {ws : List Wd} {d : Int} (o : OffA H H1 c) (hc : CurAt CC H1 c ws d) (hL : H1 L = none) : H L = none ∧ L ≠ c := by
  have ne : L ≠ c := fun z => by
    obtain ⟨dx, fs, e⟩ := hc.ins
    rw [z, e] at hL
    cases hL
  refine ⟨?_, ne⟩
  cases e : H L with
  | none => rfl
  | some u => have z := o _ _ e ne; rw [hL] at z; cases z
/-- a list that grows, nothing else changed; m: how many it had at first -/
structure RL (c L : Addr) (σ0 : L2.St) (H0 : Hp) (O : Hp → Prop) (m N : Nat) (n : Nat) (ts : List Tr) (σ : L2.St) (H : Hp) : Prop where
  st : σ = σ0
  ex : ∃ vs, H L = some (.lst vs) ∧ RtsAt H vs ts
  len : ts.length + n ≤ N
  low : m ≤ ts.length
  oth : O H
theorem lst_loop {β : Type} {K : PySem.W.Frag} {CC CN c L : Addr} {H0 : Hp} {E : XK} {D : Ends} {t : PM Bool} {g : PM Tr} {k : List Tr → PM β} {ok : β → List Wd → Int → Prop} {ts : List Tr} {vs : List V} {σ : L2.St} {H : Hp} {ws : List Wd} {d : Int} {i : Nat} (O : Hp → Prop)
    (oth : ∀ {H H'}, O H → Tups H H' → O H') {ws0 : List Wd} {d0 : Int} (hc0 : CurAt CC H0 c ws0 d0) (s0 : σ[0]? = some (some (.ref c))) (si : σ[i]? = some (some (.ref L))) (hL0 : H0 L = none) (ne : L ≠ c)
    (hc : CurAt CC H c ws d) (o : OffA H0 H c) (h : (bnd (lop t (fun ts => bnd g fun x => ret (ts ++ [x])) ts) k ws d).to ok (ErP CN c H0 E)) (hL : H L = some (.lst vs)) (hts : RtsAt H vs ts) (few : ts.length ≤ 1) (hO : O H)
    (fin : ∀ ts2 us e H' vs, OffA H0 H' c → CurAt CC H' c us e → H' L = some (.lst vs) → RtsAt H' vs ts2 → ts2.length ≤ 10010 → ts.length ≤ ts2.length → O H' → (k ts2 us e).to ok (ErP CN c H0 E) → D.nx σ H') :
    tWhile (tPT CC CN 0 t E) (tDrop (tBM K "list" rAppend (tVar i) (tCons (tP CC CN 0 RtAt g E) tNil))) D σ H := by
  have l1 := hc.len
  refine whl_go (RL c L σ H0 O ts.length 10010) (fun z => by rw [z.st]; exact s0) (fun {n a σ' H H' ws d} z hc o o2 => ?_) (fun n ts σ' H ws d D' _ o hc R h => ?_) hc o h ⟨rfl, ⟨vs, hL, hts⟩, by omega, Nat.le_refl _, hO⟩ (fun n ts us e σ' H' o hc R h => ?_)
  · obtain ⟨vs, h1, h2⟩ := z.ex
    exact ⟨z.st, ⟨vs, o2 _ _ h1 ne, h2.tups (o2.tups hc)⟩, z.len, z.low, oth z.oth (o2.tups hc)⟩
  · obtain ⟨rfl, ⟨vs, h1, h2⟩, h3, h4, h5⟩ := R
    refine ⟨_, si, .inl ⟨rfl, vs, SqL.of h1⟩, goP s0 hc o h fun x us e v H2 o q tu hc hx h => ?_⟩
    have h1 := q _ _ h1 ne
    have h2 := h2.tups tu
    refine ⟨L, vs, v, rfl, rfl, h1, ?_, ?_⟩
    · rw [h2.len]
      exact Nat.lt_of_le_of_lt (by omega) (show 10010 < sizeLine by decide)
    obtain ⟨hc2, o2, tu2⟩ := hc0.lst (vs' := vs ++ [v]) o hL0 ne hc h1
    refine ret_to h _ _ o2 hc2 ⟨rfl, ⟨_, upd_same, (h2.tups tu2).append (.cons (hx.tups tu2) .nil)⟩, by rw [List.length_append]; simp only [List.length_singleton]; omega, by rw [List.length_append]; omega, oth (oth h5 tu) tu2⟩
  · obtain ⟨rfl, ⟨vs, h1, h2⟩, h3, h4, h5⟩ := R
    exact fin ts us e H' vs o hc h1 h2 (by omega) h4 h5 h

theorem t_all : ("all" : Str) = So w_all := by decide +kernel
theorem t_and : ("and" : Str) = So w_and := by decide +kernel
theorem t_any : ("any" : Str) = So w_any := by decide +kernel
theorem t_as : ("as" : Str) = So w_as := by decide +kernel
theorem t_by : ("by" : Str) = So w_by := by decide +kernel
theorem t_case : ("case" : Str) = So w_case := by decide +kernel
theorem t_coalesce : ("coalesce" : Str) = So w_coalesce := by decide +kernel
theorem t_count : ("count" : Str) = So w_count := by decide +kernel
theorem t_cross : ("cross" : Str) = So w_cross := by decide +kernel
theorem t_desc : ("desc" : Str) = So w_desc := by decide +kernel
theorem t_distinct : ("distinct" : Str) = So w_distinct := by decide +kernel
theorem t_else : ("else" : Str) = So w_else := by decide +kernel
theorem t_end : ("end" : Str) = So w_end := by decide +kernel
theorem t_except : ("except" : Str) = So w_except := by decide +kernel
theorem t_exists : ("exists" : Str) = So w_exists := by decide +kernel
theorem t_first : ("first" : Str) = So w_first := by decide +kernel
theorem t_from : ("from" : Str) = So w_from := by decide +kernel
theorem t_full : ("full" : Str) = So w_full := by decide +kernel
theorem t_group : ("group" : Str) = So w_group := by decide +kernel
theorem t_having : ("having" : Str) = So w_having := by decide +kernel
theorem t_in : ("in" : Str) = So w_in := by decide +kernel
theorem t_inner : ("inner" : Str) = So w_inner := by decide +kernel
theorem t_intersect : ("intersect" : Str) = So w_intersect := by decide +kernel
theorem t_is : ("is" : Str) = So w_is := by decide +kernel
theorem t_join : ("join" : Str) = So w_join := by decide +kernel
theorem t_least : ("least" : Str) = So w_least := by decide +kernel
theorem t_left : ("left" : Str) = So w_left := by decide +kernel
theorem t_most : ("most" : Str) = So w_most := by decide +kernel
theorem t_not : ("not" : Str) = So w_not := by decide +kernel
theorem t_null : ("null" : Str) = So w_null := by decide +kernel
theorem t_on : ("on" : Str) = So w_on := by decide +kernel
theorem t_one : ("one" : Str) = So w_one := by decide +kernel
theorem t_or : ("or" : Str) = So w_or := by decide +kernel
theorem t_order : ("order" : Str) = So w_order := by decide +kernel
theorem t_select : ("select" : Str) = So w_select := by decide +kernel
theorem t_sum : ("sum" : Str) = So w_sum := by decide +kernel
theorem t_then : ("then" : Str) = So w_then := by decide +kernel
theorem t_union : ("union" : Str) = So w_union := by decide +kernel
theorem t_when : ("when" : Str) = So w_when := by decide +kernel
theorem t_where : ("where" : Str) = So w_where := by decide +kernel
theorem t_le : ("<=" : Str) = So w_le := by decide +kernel
theorem t_ne : ("<>" : Str) = So w_ne := by decide +kernel
theorem t_ge : (">=" : Str) = So w_ge := by decide +kernel
theorem t_op : ("(" : Str) = So w_op := by decide +kernel
theorem t_cl : (")" : Str) = So w_cl := by decide +kernel
theorem t_comma : ("," : Str) = So w_comma := by decide +kernel
theorem t_dot : ("." : Str) = So w_dot := by decide +kernel
theorem t_star : ("*" : Str) = So w_star := by decide +kernel
theorem t_plus : ("+" : Str) = So w_plus := by decide +kernel
theorem t_minus : ("-" : Str) = So w_minus := by decide +kernel
theorem t_eq : ("=" : Str) = So w_eq := by decide +kernel
theorem t_lt : ("<" : Str) = So w_lt := by decide +kernel
theorem t_gt : (">" : Str) = So w_gt := by decide +kernel
theorem t_column : ("column" : Str) = So w_column := by decide +kernel
theorem t_value : ("value" : Str) = So w_value := by decide +kernel
theorem t_param : ("param" : Str) = So w_param := by decide +kernel
theorem t_table : ("table" : Str) = So w_table := by decide +kernel
theorem t_question : ("question" : Str) = So w_question := by decide +kernel
end Ask
namespace Ask
open PySem L2 PySem.Spec PyProof.Rows PySem.AskX LamX NdefX
section
variable {P : Program} {w : World} {K : PySem.W.Frag} {mg : Str → Option Value} {base : Heap} {CC CN : Addr} {f : Addr} {fd : FuncData} {R : Rd} {b : Nat}
theorem sc_read_key : FnScope ["cursor", "name"] ["cursor"] (defScope sReadKey) := ⟨rfl, rfl, rfl, by decide +kernel, rfl, by decide +kernel, by decide +kernel⟩
theorem ok_read_key (F : Fun K "read_key" "read_key" sReadKey f fd) (M : Cur P w K mg base CC CN) : FnM P w K mg base (b + 1) f (spC CC CN RtAt rKey) := by
  refine fnm_of F sc_read_key (F.binds fun _ _ _ _ _ _ us hl => match us, hl with | [_], _ => rfl) (fun vs H Q E ⟨_, _, _, e, _⟩ => by rw [e]; rfl) (fun cdv A outer s H vs Q E hr h => ?_)
  obtain ⟨c, ws, d, rfl, hc, h⟩ := h
  have hx : Passes (L2.CX P w) (cxOf (L2.CX P w) P w K mg base ["cursor", "name"] "read_key" (defScope sReadKey) f cdv A outer s H E) E := pass_up (takes_of rfl rfl rfl rfl)
  have o := OffA.refl H c
  refine ⟨_, (pss_cons (ps_set (i := 1) sc_read_key.nd rfl (Or.inl rfl) (pe_cTake .name M hr.room hx (pv 0) rfl (by rfl)))
      (pss_one (ps_ret (pe_tup (pa_cons (pv 1) (pa_cons (pe_cPass M hr.room hx (pv 0) t_desc) pa_nil)))))), ?_⟩
  refine goP rfl hc o h fun n us d v1 H1 o q tu hc h1 h => ?_
  refine ⟨_, rfl, ?_⟩
  refine goP rfl hc o h fun b2 us d v2 H1 o q tu hc eb2 h => ?_
  have h1 := h1.tups tu
  obtain rfl : v2 = V.bl b2 := eb2
  exact ⟨(by decide : 2 ≤ sizeLine), fun p hp => retT h o hc hp (.cons h1 (.cons (.bl b2) .nil))⟩
theorem sc_read_column : FnScope ["cursor", "name"] ["cursor"] (defScope sReadColumn) := ⟨rfl, rfl, rfl, by decide +kernel, rfl, by decide +kernel, by decide +kernel⟩
theorem ok_read_column (F : Fun K "read_column" "read_column" sReadColumn f fd) (M : Cur P w K mg base CC CN) : FnM P w K mg base (b + 1) f (spC CC CN RtAt rColumn) := by
  refine fnm_of F sc_read_column (F.binds fun _ _ _ _ _ _ us hl => match us, hl with | [_], _ => rfl) (fun vs H Q E ⟨_, _, _, e, _⟩ => by rw [e]; rfl) (fun cdv A outer s H vs Q E hr h => ?_)
  obtain ⟨c, ws, d, rfl, hc, h⟩ := h
  have hx : Passes (L2.CX P w) (cxOf (L2.CX P w) P w K mg base ["cursor", "name"] "read_column" (defScope sReadColumn) f cdv A outer s H E) E := pass_up (takes_of rfl rfl rfl rfl)
  have o := OffA.refl H c
  refine ⟨_, (pss_cons (ps_set (i := 1) sc_read_column.nd rfl (Or.inl rfl) (pe_cTake .name M hr.room hx (pv 0) rfl (by rfl)))
      (pss_cons (ps_if (pt_P (pe_cPass M hr.room hx (pv 0) t_dot)) (pss_one (ps_ret (pe_tup (pa_cons pe_str (pa_cons (pv 1) (pa_cons (pe_cTake .name M hr.room hx (pv 0) rfl (by rfl)) pa_nil)))))) pss_nil)
      (pss_one (ps_ret (pe_tup (pa_cons pe_str (pa_cons pe_non (pa_cons (pv 1) pa_nil)))))))), ?_⟩
  refine goP rfl hc o h fun n us d v1 H1 o q tu hc h1 h => ?_
  refine goB rfl hc o h (fun us d H1 o q tu hc h => iteT ?_) (fun us d H1 o q tu hc h => iteF ?_)
  · skip
    have h1 := h1.tups tu
    refine ⟨_, rfl, ?_⟩
    refine goP rfl hc o h fun m us d v2 H1 o q tu hc h2 h => ?_
    have h1 := h1.tups tu
    exact ⟨(by decide : 3 ≤ sizeLine), fun p hp => retT h o hc hp (.cons (rt_str t_column) (.cons h1 (.cons h2 .nil)))⟩
  · skip
    have h1 := h1.tups tu
    refine ⟨_, rfl, ?_⟩
    exact ⟨(by decide : 3 ≤ sizeLine), fun p hp => retT h o hc hp (.cons (rt_str t_column) (.cons .non (.cons h1 .nil)))⟩
theorem sc_read_join_kind : FnScope ["cursor", "kind"] ["cursor"] (defScope sReadJoinKind) := ⟨rfl, rfl, rfl, by decide +kernel, rfl, by decide +kernel, by decide +kernel⟩
theorem ok_read_join_kind (F : Fun K "read_join_kind" "read_join_kind" sReadJoinKind f fd) (M : Cur P w K mg base CC CN) : FnM P w K mg base (b + 1) f (spC CC CN RtAt rKind) := by
  refine fnm_of F sc_read_join_kind (F.binds fun _ _ _ _ _ _ us hl => match us, hl with | [_], _ => rfl) (fun vs H Q E ⟨_, _, _, e, _⟩ => by rw [e]; rfl) (fun cdv A outer s H vs Q E hr h => ?_)
  obtain ⟨c, ws, d, rfl, hc, h⟩ := h
  have hx : Passes (L2.CX P w) (cxOf (L2.CX P w) P w K mg base ["cursor", "kind"] "read_join_kind" (defScope sReadJoinKind) f cdv A outer s H E) E := pass_up (takes_of rfl rfl rfl rfl)
  have o := OffA.refl H c
  refine ⟨_, (pss_cons (ps_if (pt_P (pe_cPass M hr.room hx (pv 0) t_join)) (pss_one (ps_ret pe_str)) pss_nil)
      (pss_cons (ps_set (i := 1) sc_read_join_kind.nd rfl (Or.inl rfl) (pe_cStep M hr.room hx (pv 0)))
      (pss_cons (ps_expr (pe_cExp M hr.room hx (pv 0) t_join))
      (pss_one (ps_ret (pv 1)))))), ?_⟩
  refine goB rfl hc o h (fun us d H1 o q tu hc h => iteT ?_) (fun us d H1 o q tu hc h => iteF ?_)
  · skip
    exact retV h o hc (rt_str t_inner)
  · skip
    refine goP rfl hc o h fun z us d v1 H1 o q tu hc h1 h => ?_
    refine goP rfl hc o h fun _ us d _ H1 o q tu hc _ h => ?_
    have h1 := h1.tups tu
    exact ⟨_, rfl, retV h o hc h1⟩
theorem sc_read_aliased : FnScope ["cursor", "question"] ["cursor", "question"] (defScope sReadAliased) := ⟨rfl, rfl, rfl, by decide +kernel, rfl, by decide +kernel, by decide +kernel⟩
theorem ok_read_aliased (F : Fun K "read_aliased" "read_aliased" sReadAliased f fd) (M : Cur P w K mg base CC CN) : FnM P w K mg base (b + 1) f (spC1 CC CN RtAt rAliased) := by
  refine fnm_of F sc_read_aliased (F.binds fun _ _ _ _ _ _ us hl => match us, hl with | [_, _], _ => rfl) (fun vs H Q E ⟨_, _, _, _, _, e, _⟩ => by rw [e]; rfl) (fun cdv A outer s H vs Q E hr h => ?_)
  obtain ⟨c, v0, t0, ws, d, rfl, ht0, hc, h⟩ := h
  have hx : Passes (L2.CX P w) (cxOf (L2.CX P w) P w K mg base ["cursor", "question"] "read_aliased" (defScope sReadAliased) f cdv A outer s H E) E := pass_up (takes_of rfl rfl rfl rfl)
  have o := OffA.refl H c
  refine ⟨_, (pss_cons (ps_expr (pe_cExp M hr.room hx (pv 0) t_as))
      (pss_one (ps_ret (pe_tup (pa_cons pe_str (pa_cons (pv 1) (pa_cons (pe_cTake .name M hr.room hx (pv 0) rfl (by rfl)) pa_nil))))))), ?_⟩
  refine goP rfl hc o h fun _ us d _ H1 o q tu hc _ h => ?_
  have ht0 := ht0.tups tu
  refine ⟨_, rfl, ?_⟩
  refine goP rfl hc o h fun n us d v1 H1 o q tu hc h1 h => ?_
  have ht0 := ht0.tups tu
  exact ⟨(by decide : 3 ≤ sizeLine), fun p hp => retT h o hc hp (.cons (rt_str t_question) (.cons ht0 (.cons h1 .nil)))⟩
theorem sc_read_enclosed : FnScope ["cursor", "question"] ["cursor"] (defScope sReadEnclosed) := ⟨rfl, rfl, rfl, by decide +kernel, rfl, by decide +kernel, by decide +kernel⟩
theorem ok_read_enclosed (F : Fun K "read_enclosed" "read_enclosed" sReadEnclosed f fd) (M : Cur P w K mg base CC CN) (D_read_whole : DnM P w K mg base b "read_whole" (spC CC CN RtAt R.W)) : FnM P w K mg base (b + 1) f (spC CC CN RtAt (rEnclosed R)) := by
  refine fnm_of F sc_read_enclosed (F.binds fun _ _ _ _ _ _ us hl => match us, hl with | [_], _ => rfl) (fun vs H Q E ⟨_, _, _, e, _⟩ => by rw [e]; rfl) (fun cdv A outer s H vs Q E hr h => ?_)
  obtain ⟨c, ws, d, rfl, hc, h⟩ := h
  have hx : Passes (L2.CX P w) (cxOf (L2.CX P w) P w K mg base ["cursor", "question"] "read_enclosed" (defScope sReadEnclosed) f cdv A outer s H E) E := pass_up (takes_of rfl rfl rfl rfl)
  have o := OffA.refl H c
  refine ⟨_, (pss_cons (ps_expr (pe_cExp M hr.room hx (pv 0) t_op))
      (pss_cons (ps_set (i := 1) sc_read_enclosed.nd rfl (Or.inl rfl) (pe_rd D_read_whole (hr.mono (by omega)) (by rfl) hx (pv 0)))
      (pss_cons (ps_expr (pe_cExp M hr.room hx (pv 0) t_cl))
      (pss_one (ps_ret (pv 1)))))), ?_⟩
  refine goP rfl hc o h fun _ us d _ H1 o q tu hc _ h => ?_
  refine goP rfl hc o h fun t us d v1 H1 o q tu hc h1 h => ?_
  refine goP rfl hc o h fun _ us d _ H1 o q tu hc _ h => ?_
  have h1 := h1.tups tu
  exact ⟨_, rfl, retV h o hc h1⟩
theorem sc_read_parenthesized : FnScope ["cursor", "tree"] ["cursor"] (defScope sReadParenthesized) := ⟨rfl, rfl, rfl, by decide +kernel, rfl, by decide +kernel, by decide +kernel⟩
theorem ok_read_parenthesized (F : Fun K "read_parenthesized" "read_parenthesized" sReadParenthesized f fd) (M : Cur P w K mg base CC CN) (D_read_e : DnM P w K mg base b "read_e" (spC CC CN RtAt R.E)) : FnM P w K mg base (b + 1) f (spC CC CN RtAt (rParen R)) := by
  refine fnm_of F sc_read_parenthesized (F.binds fun _ _ _ _ _ _ us hl => match us, hl with | [_], _ => rfl) (fun vs H Q E ⟨_, _, _, e, _⟩ => by rw [e]; rfl) (fun cdv A outer s H vs Q E hr h => ?_)
  obtain ⟨c, ws, d, rfl, hc, h⟩ := h
  have hx : Passes (L2.CX P w) (cxOf (L2.CX P w) P w K mg base ["cursor", "tree"] "read_parenthesized" (defScope sReadParenthesized) f cdv A outer s H E) E := pass_up (takes_of rfl rfl rfl rfl)
  have o := OffA.refl H c
  refine ⟨_, (pss_cons (ps_expr (pe_cExp M hr.room hx (pv 0) t_op))
      (pss_cons (ps_set (i := 1) sc_read_parenthesized.nd rfl (Or.inl rfl) (pe_rd D_read_e (hr.mono (by omega)) (by rfl) hx (pv 0)))
      (pss_cons (ps_expr (pe_cExp M hr.room hx (pv 0) t_cl))
      (pss_one (ps_ret (pv 1)))))), ?_⟩
  refine goP rfl hc o h fun _ us d _ H1 o q tu hc _ h => ?_
  refine goP rfl hc o h fun t us d v1 H1 o q tu hc h1 h => ?_
  refine goP rfl hc o h fun _ us d _ H1 o q tu hc _ h => ?_
  have h1 := h1.tups tu
  exact ⟨_, rfl, retV h o hc h1⟩
theorem sc_read_choice : FnScope ["cursor", "condition"] ["cursor"] (defScope sReadChoice) := ⟨rfl, rfl, rfl, by decide +kernel, rfl, by decide +kernel, by decide +kernel⟩
theorem ok_read_choice (F : Fun K "read_choice" "read_choice" sReadChoice f fd) (M : Cur P w K mg base CC CN) (D_read_e : DnM P w K mg base b "read_e" (spC CC CN RtAt R.E)) : FnM P w K mg base (b + 1) f (spC CC CN RtAt (rChoice R)) := by
  refine fnm_of F sc_read_choice (F.binds fun _ _ _ _ _ _ us hl => match us, hl with | [_], _ => rfl) (fun vs H Q E ⟨_, _, _, e, _⟩ => by rw [e]; rfl) (fun cdv A outer s H vs Q E hr h => ?_)
  obtain ⟨c, ws, d, rfl, hc, h⟩ := h
  have hx : Passes (L2.CX P w) (cxOf (L2.CX P w) P w K mg base ["cursor", "condition"] "read_choice" (defScope sReadChoice) f cdv A outer s H E) E := pass_up (takes_of rfl rfl rfl rfl)
  have o := OffA.refl H c
  refine ⟨_, (pss_cons (ps_set (i := 1) sc_read_choice.nd rfl (Or.inl rfl) (pe_rd D_read_e (hr.mono (by omega)) (by rfl) hx (pv 0)))
      (pss_cons (ps_expr (pe_cExp M hr.room hx (pv 0) t_then))
      (pss_one (ps_ret (pe_tup (pa_cons (pv 1) (pa_cons (pe_rd D_read_e (hr.mono (by omega)) (by rfl) hx (pv 0)) pa_nil))))))), ?_⟩
  refine goP rfl hc o h fun t us d v1 H1 o q tu hc h1 h => ?_
  refine goP rfl hc o h fun _ us d _ H1 o q tu hc _ h => ?_
  have h1 := h1.tups tu
  refine ⟨_, rfl, ?_⟩
  refine goP rfl hc o h fun u us d v2 H1 o q tu hc h2 h => ?_
  have h1 := h1.tups tu
  exact ⟨(by decide : 2 ≤ sizeLine), fun p hp => retT h o hc hp (.cons h1 (.cons h2 .nil))⟩
theorem sc_read_count : FnScope ["cursor", "is_distinct", "tree"] ["cursor"] (defScope sReadCount) := ⟨rfl, rfl, rfl, by decide +kernel, rfl, by decide +kernel, by decide +kernel⟩
theorem ok_read_count (F : Fun K "read_count" "read_count" sReadCount f fd) (M : Cur P w K mg base CC CN) (D_read_e : DnM P w K mg base b "read_e" (spC CC CN RtAt R.E)) : FnM P w K mg base (b + 1) f (spC CC CN RtAt (rCount R)) := by
  refine fnm_of F sc_read_count (F.binds fun _ _ _ _ _ _ us hl => match us, hl with | [_], _ => rfl) (fun vs H Q E ⟨_, _, _, e, _⟩ => by rw [e]; rfl) (fun cdv A outer s H vs Q E hr h => ?_)
  obtain ⟨c, ws, d, rfl, hc, h⟩ := h
  have hx : Passes (L2.CX P w) (cxOf (L2.CX P w) P w K mg base ["cursor", "is_distinct", "tree"] "read_count" (defScope sReadCount) f cdv A outer s H E) E := pass_up (takes_of rfl rfl rfl rfl)
  have o := OffA.refl H c
  refine ⟨_, (pss_cons (ps_expr (pe_cExp M hr.room hx (pv 0) t_op))
      (pss_cons (ps_if (pt_P (pe_cPass M hr.room hx (pv 0) t_star)) (pss_cons (ps_expr (pe_cExp M hr.room hx (pv 0) t_cl))
      (pss_one (ps_ret (pe_tup (pa_cons pe_str (pa_cons pe_non (pa_cons pe_bl pa_nil))))))) pss_nil)
      (pss_cons (ps_set (i := 1) sc_read_count.nd rfl (Or.inl rfl) (pe_cPass M hr.room hx (pv 0) t_distinct))
      (pss_cons (ps_set (i := 2) sc_read_count.nd rfl (Or.inl rfl) (pe_rd D_read_e (hr.mono (by omega)) (by rfl) hx (pv 0)))
      (pss_cons (ps_expr (pe_cExp M hr.room hx (pv 0) t_cl))
      (pss_one (ps_ret (pe_tup (pa_cons pe_str (pa_cons (pv 2) (pa_cons (pv 1) pa_nil))))))))))), ?_⟩
  refine goP rfl hc o h fun _ us d _ H1 o q tu hc _ h => ?_
  refine goB rfl hc o h (fun us d H1 o q tu hc h => iteT ?_) (fun us d H1 o q tu hc h => iteF ?_)
  · skip
    refine goP rfl hc o h fun _ us d _ H1 o q tu hc _ h => ?_
    exact ⟨(by decide : 3 ≤ sizeLine), fun p hp => retT h o hc hp (.cons (rt_str t_count) (.cons .non (.cons (.bl false) .nil)))⟩
  · skip
    refine goP rfl hc o h fun b2 us d v1 H1 o q tu hc eb2 h => ?_
    obtain rfl : v1 = V.bl b2 := eb2
    refine goP rfl hc o h fun t us d v2 H1 o q tu hc h2 h => ?_
    refine goP rfl hc o h fun _ us d _ H1 o q tu hc _ h => ?_
    have h2 := h2.tups tu
    refine ⟨_, rfl, ?_⟩
    refine ⟨_, rfl, ?_⟩
    exact ⟨(by decide : 3 ≤ sizeLine), fun p hp => retT h o hc hp (.cons (rt_str t_count) (.cons h2 (.cons (.bl b2) .nil)))⟩
end
end Ask
namespace Ask
open PySem L2 PySem.Spec PyProof.Rows PySem.AskX LamX NdefX
section
variable {P : Program} {w : World} {K : PySem.W.Frag} {mg : Str → Option Value} {base : Heap} {CC CN : Addr} {f : Addr} {fd : FuncData} {R : Rd} {b : Nat}
theorem sc_read_groups : FnScope ["cursor", "groups"] ["cursor"] (defScope sReadGroups) := ⟨rfl, rfl, rfl, by decide +kernel, rfl, by decide +kernel, by decide +kernel⟩
theorem ok_read_groups (F : Fun K "read_groups" "read_groups" sReadGroups f fd) (B : Blt mg) (M : Cur P w K mg base CC CN) (D_read_column : DnM P w K mg base (b + 1) "read_column" (spC CC CN RtAt rColumn)) : FnM P w K mg base (b + 2) f (spC CC CN RtAt rGroups) := by
  refine fnm_of F sc_read_groups (F.binds fun _ _ _ _ _ _ us hl => match us, hl with | [_], _ => rfl) (fun vs H Q E ⟨_, _, _, e, _⟩ => by rw [e]; rfl) (fun cdv A outer s H vs Q E hr h => ?_)
  obtain ⟨c, ws, d, rfl, hc, h⟩ := h
  have hx : Passes (L2.CX P w) (cxOf (L2.CX P w) P w K mg base ["cursor", "groups"] "read_groups" (defScope sReadGroups) f cdv A outer s H E) E := pass_up (takes_of rfl rfl rfl rfl)
  have po : PassesOwn (model P w) (cxOf (L2.CX P w) P w K mg base ["cursor", "groups"] "read_groups" (defScope sReadGroups) f cdv A outer s H E).A (cxOf (L2.CX P w) P w K mg base ["cursor", "groups"] "read_groups" (defScope sReadGroups) f cdv A outer s H E).env (cxOf (L2.CX P w) P w K mg base ["cursor", "groups"] "read_groups" (defScope sReadGroups) f cdv A outer s H E).xe := passes_of rfl
  have o := OffA.refl H c
  refine ⟨_, (pss_cons (ps_if (pt_not (pt_P (pe_cPass M hr.room hx (pv 0) t_group))) (pss_one (ps_ret pe_non)) pss_nil)
      (pss_cons (ps_expr (pe_cExp M hr.room hx (pv 0) t_by))
      (pss_cons (ps_if (pt_P (pe_cPass M hr.room hx (pv 0) t_op)) (pss_cons (ps_expr (pe_cExp M hr.room hx (pv 0) t_cl))
      (pss_one (ps_ret (pe_tup pa_nil)))) pss_nil)
      (pss_cons (ps_set (i := 1) sc_read_groups.nd rfl (Or.inl rfl) (pe_lst (pa_cons (pe_rd D_read_column (hr.mono (by omega)) (by rfl) hx (pv 0)) pa_nil)))
      (pss_cons (ps_while po (pt_P (pe_cPass M hr.room hx (pv 0) t_comma)) (pss_one (ps_expr (pe_bm PySem.F.plainAttrs_list PySem.F.slot_list_append PySem.F.type_list_append mt_append (pv 1) (pa_cons (pe_rd D_read_column (hr.mono (by omega)) (by rfl) hx (pv 0)) pa_nil)))))
      (pss_one (ps_ret (pe_callTy cr_tupL (by rfl) B.tuple boot_tuple (pa_cons (pv 1) pa_nil))))))))), ?_⟩
  have hc0 := hc
  refine goB rfl hc o h (fun us d H1 o q tu hc h => iteF ?_) (fun us d H1 o q tu hc h => iteT ?_)
  · skip
    refine goP rfl hc o h fun _ us d _ H1 o q tu hc _ h => ?_
    refine goB rfl hc o h (fun us d H1 o q tu hc h => iteT ?_) (fun us d H1 o q tu hc h => iteF ?_)
    · skip
      refine goP rfl hc o h fun _ us d _ H1 o q tu hc _ h => ?_
      exact ⟨(by decide : 0 ≤ sizeLine), fun p hp => retT h o hc hp .nil⟩
    · skip
      refine goP rfl hc o h fun t1 us d v1 H1 o q tu hc h1 h => ?_
      refine ⟨(by decide : 1 ≤ sizeLine), fun L hL => ?_⟩
      obtain ⟨hL0, neL⟩ := off_new o hc hL
      have tu : Tups H1 (L2.upd H1 L (.lst [v1])) := Tups.of_same (same_new hL _)
      have o := o.new hL (.lst [v1])
      have hc := hc.new hL (.lst [v1])
      have h1 := h1.tups tu
      refine lst_loop (fun _ => True) (fun _ _ => trivial) hc0 rfl rfl hL0 neL hc o h upd_same (.cons h1 .nil) (Nat.le_refl 1) (trivial) (fun ts us d H1 vs o hc hl hts n1 n2 hO h => ?_)
      refine ⟨_, rfl, L, vs, rfl, SqL.of hl, fun p hp => ?_⟩
      exact retT h o hc hp hts
  · exact retV h o hc .non
theorem sc_read_case : FnScope ["cursor", "choices", "otherwise"] ["cursor"] (defScope sReadCase) := ⟨rfl, rfl, rfl, by decide +kernel, rfl, by decide +kernel, by decide +kernel⟩
theorem ok_read_case (F : Fun K "read_case" "read_case" sReadCase f fd) (B : Blt mg) (M : Cur P w K mg base CC CN) (D_read_e : DnM P w K mg base b "read_e" (spC CC CN RtAt R.E)) (D_read_choice : DnM P w K mg base (b + 1) "read_choice" (spC CC CN RtAt (rChoice R))) : FnM P w K mg base (b + 2) f (spC CC CN RtAt (rCase R)) := by
  refine fnm_of F sc_read_case (F.binds fun _ _ _ _ _ _ us hl => match us, hl with | [_], _ => rfl) (fun vs H Q E ⟨_, _, _, e, _⟩ => by rw [e]; rfl) (fun cdv A outer s H vs Q E hr h => ?_)
  obtain ⟨c, ws, d, rfl, hc, h⟩ := h
  have hx : Passes (L2.CX P w) (cxOf (L2.CX P w) P w K mg base ["cursor", "choices", "otherwise"] "read_case" (defScope sReadCase) f cdv A outer s H E) E := pass_up (takes_of rfl rfl rfl rfl)
  have po : PassesOwn (model P w) (cxOf (L2.CX P w) P w K mg base ["cursor", "choices", "otherwise"] "read_case" (defScope sReadCase) f cdv A outer s H E).A (cxOf (L2.CX P w) P w K mg base ["cursor", "choices", "otherwise"] "read_case" (defScope sReadCase) f cdv A outer s H E).env (cxOf (L2.CX P w) P w K mg base ["cursor", "choices", "otherwise"] "read_case" (defScope sReadCase) f cdv A outer s H E).xe := passes_of rfl
  have o := OffA.refl H c
  refine ⟨_, (pss_cons (ps_set (i := 1) sc_read_case.nd rfl (Or.inl rfl) (pe_lst pa_nil))
      (pss_cons (ps_expr (pe_cExp M hr.room hx (pv 0) t_when))
      (pss_cons (ps_expr (pe_bm PySem.F.plainAttrs_list PySem.F.slot_list_append PySem.F.type_list_append mt_append (pv 1) (pa_cons (pe_rd D_read_choice (hr.mono (by omega)) (by rfl) hx (pv 0)) pa_nil)))
      (pss_cons (ps_while po (pt_P (pe_cPass M hr.room hx (pv 0) t_when)) (pss_one (ps_expr (pe_bm PySem.F.plainAttrs_list PySem.F.slot_list_append PySem.F.type_list_append mt_append (pv 1) (pa_cons (pe_rd D_read_choice (hr.mono (by omega)) (by rfl) hx (pv 0)) pa_nil)))))
      (pss_cons (ps_set (i := 2) sc_read_case.nd rfl (Or.inl rfl) (pe_ifExp (pt_P (pe_cPass M hr.room hx (pv 0) t_else)) (pe_rd D_read_e (hr.mono (by omega)) (by rfl) hx (pv 0)) (pe_tup (pa_cons pe_str (pa_cons pe_non pa_nil)))))
      (pss_cons (ps_expr (pe_cExp M hr.room hx (pv 0) t_end))
      (pss_one (ps_ret (pe_tup (pa_cons pe_str (pa_cons (pe_callTy cr_tupL (by rfl) B.tuple boot_tuple (pa_cons (pv 1) pa_nil)) (pa_cons (pv 2) pa_nil)))))))))))), ?_⟩
  have hc0 := hc
  refine ⟨(by decide : 0 ≤ sizeLine), fun L hL => ?_⟩
  obtain ⟨hL0, neL⟩ := off_new o hc hL
  have o := o.new hL (.lst [])
  have hc := hc.new hL (.lst [])
  have hl : (L2.upd H L (.lst [])) L = some (.lst []) := upd_same
  refine goP rfl hc o h fun _ us d _ H1 o q tu hc _ h => ?_
  have hl := q _ _ hl neL
  refine ⟨_, rfl, .inl ⟨rfl, _, SqL.of hl⟩, goP rfl hc o h fun x us d v1 H1 o q tu hc hx h => ?_⟩
  have hl := q _ _ hl neL
  refine ⟨L, [], v1, rfl, rfl, hl, (by decide), ?_⟩
  obtain ⟨hc, o, tu⟩ := hc0.lst (vs' := [] ++ [v1]) o hL0 neL hc hl
  have hx := hx.tups tu
  refine lst_loop (fun _ => True) (fun _ _ => trivial) hc0 rfl rfl hL0 neL hc o h upd_same (.cons hx .nil) (Nat.le_refl 1) trivial (fun ts us d H1 vs o hc hl hts n1 n2 hO h => ?_)
  refine goB rfl hc o h (fun us d H1 o q tu hc h => iteT ?_) (fun us d H1 o q tu hc h => iteF ?_)
  · have hl := q _ _ hl neL
    have hts := hts.tups tu
    refine goP rfl hc o h fun u us d v2 H1 o q tu hc h2 h => ?_
    have hl := q _ _ hl neL
    have hts := hts.tups tu
    refine goP rfl hc o h fun _ us d _ H1 o q tu hc _ h => ?_
    have h2 := h2.tups tu
    have hl := q _ _ hl neL
    have hts := hts.tups tu
    refine ⟨_, rfl, L, vs, rfl, SqL.of hl, fun p2 hp2 => ⟨_, rfl, ?_⟩⟩
    have tu2 := Tups.of_same (same_new hp2 (.tup vs))
    exact ⟨(by decide : 3 ≤ sizeLine), fun p hp => retT h (o.new hp2 _) (hc.new hp2 _) hp (.cons (rt_str t_case) (.cons (mkT hp2 hts) (.cons (h2.tups tu2) .nil)))⟩
  · have hl := q _ _ hl neL
    have hts := hts.tups tu
    refine ⟨(by decide : 2 ≤ sizeLine), fun p3 hp3 => ?_⟩
    have tu3 := Tups.of_same (same_new hp3 (.tup [.str "value", .non]))
    have h2 := mkT hp3 (vs := [.str "value", .non]) (.cons (rt_str t_value) (.cons .non .nil))
    have hl := same_new hp3 (.tup [.str "value", .non]) _ _ hl
    have hts := hts.tups tu3
    have o := o.new hp3 (.tup [.str "value", .non])
    have hc := hc.new hp3 (.tup [.str "value", .non])
    refine goP rfl hc o h fun _ us d _ H1 o q tu hc _ h => ?_
    have h2 := h2.tups tu
    have hl := q _ _ hl neL
    have hts := hts.tups tu
    refine ⟨_, rfl, L, vs, rfl, SqL.of hl, fun p2 hp2 => ⟨_, rfl, ?_⟩⟩
    have tu2 := Tups.of_same (same_new hp2 (.tup vs))
    exact ⟨(by decide : 3 ≤ sizeLine), fun p hp => retT h (o.new hp2 _) (hc.new hp2 _) hp (.cons (rt_str t_case) (.cons (mkT hp2 hts) (.cons (h2.tups tu2) .nil)))⟩
theorem sc_read_coalesce : FnScope ["cursor", "parts"] ["cursor"] (defScope sReadCoalesce) := ⟨rfl, rfl, rfl, by decide +kernel, rfl, by decide +kernel, by decide +kernel⟩
theorem ok_read_coalesce (F : Fun K "read_coalesce" "read_coalesce" sReadCoalesce f fd) (B : Blt mg) (M : Cur P w K mg base CC CN) (D_read_e : DnM P w K mg base b "read_e" (spC CC CN RtAt R.E)) : FnM P w K mg base (b + 1) f (spC CC CN RtAt (rCoalesce R)) := by
  refine fnm_of F sc_read_coalesce (F.binds fun _ _ _ _ _ _ us hl => match us, hl with | [_], _ => rfl) (fun vs H Q E ⟨_, _, _, e, _⟩ => by rw [e]; rfl) (fun cdv A outer s H vs Q E hr h => ?_)
  obtain ⟨c, ws, d, rfl, hc, h⟩ := h
  have hx : Passes (L2.CX P w) (cxOf (L2.CX P w) P w K mg base ["cursor", "parts"] "read_coalesce" (defScope sReadCoalesce) f cdv A outer s H E) E := pass_up (takes_of rfl rfl rfl rfl)
  have po : PassesOwn (model P w) (cxOf (L2.CX P w) P w K mg base ["cursor", "parts"] "read_coalesce" (defScope sReadCoalesce) f cdv A outer s H E).A (cxOf (L2.CX P w) P w K mg base ["cursor", "parts"] "read_coalesce" (defScope sReadCoalesce) f cdv A outer s H E).env (cxOf (L2.CX P w) P w K mg base ["cursor", "parts"] "read_coalesce" (defScope sReadCoalesce) f cdv A outer s H E).xe := passes_of rfl
  have o := OffA.refl H c
  refine ⟨_, (pss_cons (ps_expr (pe_cExp M hr.room hx (pv 0) t_op))
      (pss_cons (ps_set (i := 1) sc_read_coalesce.nd rfl (Or.inl rfl) (pe_lst (pa_cons (pe_rd D_read_e (hr.mono (by omega)) (by rfl) hx (pv 0)) pa_nil)))
      (pss_cons (ps_while po (pt_P (pe_cPass M hr.room hx (pv 0) t_comma)) (pss_one (ps_expr (pe_bm PySem.F.plainAttrs_list PySem.F.slot_list_append PySem.F.type_list_append mt_append (pv 1) (pa_cons (pe_rd D_read_e (hr.mono (by omega)) (by rfl) hx (pv 0)) pa_nil)))))
      (pss_cons (ps_expr (pe_cExp M hr.room hx (pv 0) t_cl))
      (pss_one (ps_ret (pe_tup (pa_cons pe_str (pa_cons (pe_callTy cr_tupL (by rfl) B.tuple boot_tuple (pa_cons (pv 1) pa_nil)) pa_nil))))))))), ?_⟩
  have hc0 := hc
  refine goP rfl hc o h fun _ us d _ H1 o q tu hc _ h => ?_
  refine goP rfl hc o h fun t1 us d v1 H1 o q tu hc h1 h => ?_
  refine ⟨(by decide : 1 ≤ sizeLine), fun L hL => ?_⟩
  obtain ⟨hL0, neL⟩ := off_new o hc hL
  have tu : Tups H1 (L2.upd H1 L (.lst [v1])) := Tups.of_same (same_new hL _)
  have o := o.new hL (.lst [v1])
  have hc := hc.new hL (.lst [v1])
  have h1 := h1.tups tu
  refine lst_loop (fun _ => True) (fun _ _ => trivial) hc0 rfl rfl hL0 neL hc o h upd_same (.cons h1 .nil) (Nat.le_refl 1) (trivial) (fun ts us d H1 vs o hc hl hts n1 n2 hO h => ?_)
  refine goP rfl hc o h fun _ us d _ H1 o q tu hc _ h => ?_
  have hl := q _ _ hl neL
  have hts := hts.tups tu
  refine ⟨_, rfl, L, vs, rfl, SqL.of hl, fun p2 hp2 => ?_⟩
  exact ⟨(by decide : 2 ≤ sizeLine), fun p hp => retT h (o.new hp2 _) (hc.new hp2 _) hp (.cons (rt_str t_coalesce) (.cons (mkT hp2 hts) .nil))⟩
theorem sc_read_items : FnScope ["cursor", "items"] ["cursor"] (defScope sReadItems) := ⟨rfl, rfl, rfl, by decide +kernel, rfl, by decide +kernel, by decide +kernel⟩
theorem ok_read_items (F : Fun K "read_items" "read_items" sReadItems f fd) (B : Blt mg) (M : Cur P w K mg base CC CN) (D_read_item : DnM P w K mg base (b + 12) "read_item" (spC CC CN RtAt (rItem R))) : FnM P w K mg base (b + 13) f (spC CC CN RtAt (rItems R)) := by
  refine fnm_of F sc_read_items (F.binds fun _ _ _ _ _ _ us hl => match us, hl with | [_], _ => rfl) (fun vs H Q E ⟨_, _, _, e, _⟩ => by rw [e]; rfl) (fun cdv A outer s H vs Q E hr h => ?_)
  obtain ⟨c, ws, d, rfl, hc, h⟩ := h
  have hx : Passes (L2.CX P w) (cxOf (L2.CX P w) P w K mg base ["cursor", "items"] "read_items" (defScope sReadItems) f cdv A outer s H E) E := pass_up (takes_of rfl rfl rfl rfl)
  have po : PassesOwn (model P w) (cxOf (L2.CX P w) P w K mg base ["cursor", "items"] "read_items" (defScope sReadItems) f cdv A outer s H E).A (cxOf (L2.CX P w) P w K mg base ["cursor", "items"] "read_items" (defScope sReadItems) f cdv A outer s H E).env (cxOf (L2.CX P w) P w K mg base ["cursor", "items"] "read_items" (defScope sReadItems) f cdv A outer s H E).xe := passes_of rfl
  have o := OffA.refl H c
  refine ⟨_, (pss_cons (ps_if (pt_P (pe_cPass M hr.room hx (pv 0) t_star)) (pss_one (ps_ret pe_non)) pss_nil)
      (pss_cons (ps_set (i := 1) sc_read_items.nd rfl (Or.inl rfl) (pe_lst (pa_cons (pe_rd D_read_item (hr.mono (by omega)) (by rfl) hx (pv 0)) pa_nil)))
      (pss_cons (ps_while po (pt_P (pe_cPass M hr.room hx (pv 0) t_comma)) (pss_one (ps_expr (pe_bm PySem.F.plainAttrs_list PySem.F.slot_list_append PySem.F.type_list_append mt_append (pv 1) (pa_cons (pe_rd D_read_item (hr.mono (by omega)) (by rfl) hx (pv 0)) pa_nil)))))
      (pss_one (ps_ret (pe_callTy cr_tupL (by rfl) B.tuple boot_tuple (pa_cons (pv 1) pa_nil))))))), ?_⟩
  have hc0 := hc
  refine goB rfl hc o h (fun us d H1 o q tu hc h => iteT ?_) (fun us d H1 o q tu hc h => iteF ?_)
  · skip
    exact retV h o hc .non
  · skip
    refine goP rfl hc o h fun t1 us d v1 H1 o q tu hc h1 h => ?_
    refine ⟨(by decide : 1 ≤ sizeLine), fun L hL => ?_⟩
    obtain ⟨hL0, neL⟩ := off_new o hc hL
    have tu : Tups H1 (L2.upd H1 L (.lst [v1])) := Tups.of_same (same_new hL _)
    have o := o.new hL (.lst [v1])
    have hc := hc.new hL (.lst [v1])
    have h1 := h1.tups tu
    refine lst_loop (fun _ => True) (fun _ _ => trivial) hc0 rfl rfl hL0 neL hc o h upd_same (.cons h1 .nil) (Nat.le_refl 1) (trivial) (fun ts us d H1 vs o hc hl hts n1 n2 hO h => ?_)
    refine ⟨_, rfl, L, vs, rfl, SqL.of hl, fun p hp => ?_⟩
    exact retT h o hc hp hts
theorem sc_read_both : FnScope ["cursor", "parts"] ["cursor"] (defScope sReadBoth) := ⟨rfl, rfl, rfl, by decide +kernel, rfl, by decide +kernel, by decide +kernel⟩
theorem ok_read_both (F : Fun K "read_both" "read_both" sReadBoth f fd) (B : Blt mg) (M : Cur P w K mg base CC CN) (D_read_no : DnM P w K mg base (b + 9) "read_no" (spC CC CN RtAt (rNo R))) : FnM P w K mg base (b + 10) f (spC CC CN RtAt (rBoth R)) := by
  refine fnm_of F sc_read_both (F.binds fun _ _ _ _ _ _ us hl => match us, hl with | [_], _ => rfl) (fun vs H Q E ⟨_, _, _, e, _⟩ => by rw [e]; rfl) (fun cdv A outer s H vs Q E hr h => ?_)
  obtain ⟨c, ws, d, rfl, hc, h⟩ := h
  have hx : Passes (L2.CX P w) (cxOf (L2.CX P w) P w K mg base ["cursor", "parts"] "read_both" (defScope sReadBoth) f cdv A outer s H E) E := pass_up (takes_of rfl rfl rfl rfl)
  have po : PassesOwn (model P w) (cxOf (L2.CX P w) P w K mg base ["cursor", "parts"] "read_both" (defScope sReadBoth) f cdv A outer s H E).A (cxOf (L2.CX P w) P w K mg base ["cursor", "parts"] "read_both" (defScope sReadBoth) f cdv A outer s H E).env (cxOf (L2.CX P w) P w K mg base ["cursor", "parts"] "read_both" (defScope sReadBoth) f cdv A outer s H E).xe := passes_of rfl
  have o := OffA.refl H c
  refine ⟨_, (pss_cons (ps_set (i := 1) sc_read_both.nd rfl (Or.inl rfl) (pe_lst (pa_cons (pe_rd D_read_no (hr.mono (by omega)) (by rfl) hx (pv 0)) pa_nil)))
      (pss_cons (ps_while po (pt_P (pe_cPass M hr.room hx (pv 0) t_and)) (pss_one (ps_expr (pe_bm PySem.F.plainAttrs_list PySem.F.slot_list_append PySem.F.type_list_append mt_append (pv 1) (pa_cons (pe_rd D_read_no (hr.mono (by omega)) (by rfl) hx (pv 0)) pa_nil)))))
      (pss_one (ps_ret (pe_ifExp (pt_cmpR op_gt (pe_callB call_len (by rfl) B.len PySem.boot_len (pa_cons (pv 1) pa_nil)) pe_int (nomark _)) (pe_tup (pa_cons pe_str (pa_cons (pe_callTy cr_tupL (by rfl) B.tuple boot_tuple (pa_cons (pv 1) pa_nil)) pa_nil))) (pe_ix (r := rIxL K) ix_list (pv 1) pe_int (fun _ _ => rfl))))))), ?_⟩
  have hc0 := hc
  refine goP rfl hc o h fun t1 us d v1 H1 o q tu hc h1 h => ?_
  refine ⟨(by decide : 1 ≤ sizeLine), fun L hL => ?_⟩
  obtain ⟨hL0, neL⟩ := off_new o hc hL
  have tu : Tups H1 (L2.upd H1 L (.lst [v1])) := Tups.of_same (same_new hL _)
  have o := o.new hL (.lst [v1])
  have hc := hc.new hL (.lst [v1])
  have h1 := h1.tups tu
  refine lst_loop (fun _ => True) (fun _ _ => trivial) hc0 rfl rfl hL0 neL hc o h upd_same (.cons h1 .nil) (Nat.le_refl 1) (trivial) (fun ts us d H1 vs o hc hl hts n1 n2 hO h => ?_)
  refine ⟨_, rfl, .ref L, vs.length, rfl, .inl ⟨_, SqL.of hl, rfl⟩, _, _, rfl, rfl, _, rfl, ?_⟩
  rw [hts.len]
  cases ts with
  | nil => exact absurd n2 (Nat.not_succ_le_zero 0)
  | cons x r =>
  cases r with
  | nil =>
    cases hts with
    | cons hx hr =>
    cases hr
    exact iteF ⟨_, rfl, L, _, 0, _, rfl, rfl, SqL.of hl, rfl, retV h o hc hx⟩
  | cons y r =>
    have e : decide ((1 : Int) < (((x :: y :: r).length : Nat) : Int)) = true := decide_eq_true (by simp only [List.length_cons]; omega)
    rw [e]
    refine iteT ⟨_, rfl, L, vs, rfl, SqL.of hl, fun p2 hp2 => ?_⟩
    exact ⟨(by decide : 2 ≤ sizeLine), fun p hp => retT h (o.new hp2 _) (hc.new hp2 _) hp (.cons (rt_str t_and) (.cons (mkT hp2 hts) .nil))⟩
theorem sc_read_e : FnScope ["cursor", "parts"] ["cursor"] (defScope sReadE) := ⟨rfl, rfl, rfl, by decide +kernel, rfl, by decide +kernel, by decide +kernel⟩
theorem ok_read_e (F : Fun K "read_e" "read_e" sReadE f fd) (B : Blt mg) (M : Cur P w K mg base CC CN) (D_read_both : DnM P w K mg base (b + 10) "read_both" (spC CC CN RtAt (rBoth R))) : FnM P w K mg base (b + 11) f (spC CC CN RtAt (rE R)) := by
  refine fnm_of F sc_read_e (F.binds fun _ _ _ _ _ _ us hl => match us, hl with | [_], _ => rfl) (fun vs H Q E ⟨_, _, _, e, _⟩ => by rw [e]; rfl) (fun cdv A outer s H vs Q E hr h => ?_)
  obtain ⟨c, ws, d, rfl, hc, h⟩ := h
  have hx : Passes (L2.CX P w) (cxOf (L2.CX P w) P w K mg base ["cursor", "parts"] "read_e" (defScope sReadE) f cdv A outer s H E) E := pass_up (takes_of rfl rfl rfl rfl)
  have po : PassesOwn (model P w) (cxOf (L2.CX P w) P w K mg base ["cursor", "parts"] "read_e" (defScope sReadE) f cdv A outer s H E).A (cxOf (L2.CX P w) P w K mg base ["cursor", "parts"] "read_e" (defScope sReadE) f cdv A outer s H E).env (cxOf (L2.CX P w) P w K mg base ["cursor", "parts"] "read_e" (defScope sReadE) f cdv A outer s H E).xe := passes_of rfl
  have o := OffA.refl H c
  refine ⟨_, (pss_cons (ps_set (i := 1) sc_read_e.nd rfl (Or.inl rfl) (pe_lst (pa_cons (pe_rd D_read_both (hr.mono (by omega)) (by rfl) hx (pv 0)) pa_nil)))
      (pss_cons (ps_while po (pt_P (pe_cPass M hr.room hx (pv 0) t_or)) (pss_one (ps_expr (pe_bm PySem.F.plainAttrs_list PySem.F.slot_list_append PySem.F.type_list_append mt_append (pv 1) (pa_cons (pe_rd D_read_both (hr.mono (by omega)) (by rfl) hx (pv 0)) pa_nil)))))
      (pss_one (ps_ret (pe_ifExp (pt_cmpR op_gt (pe_callB call_len (by rfl) B.len PySem.boot_len (pa_cons (pv 1) pa_nil)) pe_int (nomark _)) (pe_tup (pa_cons pe_str (pa_cons (pe_callTy cr_tupL (by rfl) B.tuple boot_tuple (pa_cons (pv 1) pa_nil)) pa_nil))) (pe_ix (r := rIxL K) ix_list (pv 1) pe_int (fun _ _ => rfl))))))), ?_⟩
  have hc0 := hc
  refine goP rfl hc o h fun t1 us d v1 H1 o q tu hc h1 h => ?_
  refine ⟨(by decide : 1 ≤ sizeLine), fun L hL => ?_⟩
  obtain ⟨hL0, neL⟩ := off_new o hc hL
  have tu : Tups H1 (L2.upd H1 L (.lst [v1])) := Tups.of_same (same_new hL _)
  have o := o.new hL (.lst [v1])
  have hc := hc.new hL (.lst [v1])
  have h1 := h1.tups tu
  refine lst_loop (fun _ => True) (fun _ _ => trivial) hc0 rfl rfl hL0 neL hc o h upd_same (.cons h1 .nil) (Nat.le_refl 1) (trivial) (fun ts us d H1 vs o hc hl hts n1 n2 hO h => ?_)
  refine ⟨_, rfl, .ref L, vs.length, rfl, .inl ⟨_, SqL.of hl, rfl⟩, _, _, rfl, rfl, _, rfl, ?_⟩
  rw [hts.len]
  cases ts with
  | nil => exact absurd n2 (Nat.not_succ_le_zero 0)
  | cons x r =>
  cases r with
  | nil =>
    cases hts with
    | cons hx hr =>
    cases hr
    exact iteF ⟨_, rfl, L, _, 0, _, rfl, rfl, SqL.of hl, rfl, retV h o hc hx⟩
  | cons y r =>
    have e : decide ((1 : Int) < (((x :: y :: r).length : Nat) : Int)) = true := decide_eq_true (by simp only [List.length_cons]; omega)
    rw [e]
    refine iteT ⟨_, rfl, L, vs, rfl, SqL.of hl, fun p2 hp2 => ?_⟩
    exact ⟨(by decide : 2 ≤ sizeLine), fun p hp => retT h (o.new hp2 _) (hc.new hp2 _) hp (.cons (rt_str t_or) (.cons (mkT hp2 hts) .nil))⟩
end
end Ask
namespace Ask
open PySem L2 PySem.Spec PyProof.Rows PySem.AskX LamX NdefX
section
variable {P : Program} {w : World} {K : PySem.W.Frag} {mg : Str → Option Value} {base : Heap} {CC CN : Addr} {f : Addr} {fd : FuncData} {R : Rd} {b : Nat}
theorem sc_read_bare_factor : FnScope ["cursor", "word"] ["cursor"] (defScope sReadBareFactor) := ⟨rfl, rfl, rfl, by decide +kernel, rfl, by decide +kernel, by decide +kernel⟩
theorem ok_read_bare_factor (F : Fun K "read_bare_factor" "read_bare_factor" sReadBareFactor f fd) (M : Cur P w K mg base CC CN) (D_read_parenthesized : DnM P w K mg base (b + 1) "read_parenthesized" (spC CC CN RtAt (rParen R))) (D_read_column : DnM P w K mg base (b + 1) "read_column" (spC CC CN RtAt rColumn)) (D_read_count : DnM P w K mg base (b + 1) "read_count" (spC CC CN RtAt (rCount R))) (D_read_coalesce : DnM P w K mg base (b + 1) "read_coalesce" (spC CC CN RtAt (rCoalesce R))) (D_read_case : DnM P w K mg base (b + 2) "read_case" (spC CC CN RtAt (rCase R))) (D_read_enclosed : DnM P w K mg base (b + 1) "read_enclosed" (spC CC CN RtAt (rEnclosed R))) : FnM P w K mg base (b + 3) f (spC CC CN RtAt (rBare R)) := by
  refine fnm_of F sc_read_bare_factor (F.binds fun _ _ _ _ _ _ us hl => match us, hl with | [_], _ => rfl) (fun vs H Q E ⟨_, _, _, e, _⟩ => by rw [e]; rfl) (fun cdv A outer s H vs Q E hr h => ?_)
  obtain ⟨c, ws, d, rfl, hc, h⟩ := h
  have hx : Passes (L2.CX P w) (cxOf (L2.CX P w) P w K mg base ["cursor", "word"] "read_bare_factor" (defScope sReadBareFactor) f cdv A outer s H E) E := pass_up (takes_of rfl rfl rfl rfl)
  have o := OffA.refl H c
  refine ⟨_, (pss_cons (ps_if (pt_P (pe_cHold (E := E) .int M hr.room (pv 0) rfl (by rfl))) (pss_one (ps_ret (pe_tup (pa_cons pe_str (pa_cons (pe_cTake .int M hr.room hx (pv 0) rfl (by rfl)) pa_nil))))) pss_nil)
      (pss_cons (ps_if (pt_P (pe_cHold (E := E) .str M hr.room (pv 0) rfl (by rfl))) (pss_one (ps_ret (pe_tup (pa_cons pe_str (pa_cons (pe_cTake .str M hr.room hx (pv 0) rfl (by rfl)) pa_nil))))) pss_nil)
      (pss_cons (ps_if (pt_P (pe_cHold (E := E) .par M hr.room (pv 0) rfl (by rfl))) (pss_one (ps_ret (pe_tup (pa_cons pe_str (pa_cons (pe_cTake .par M hr.room hx (pv 0) rfl (by rfl)) pa_nil))))) pss_nil)
      (pss_cons (ps_if (pt_P (pe_cPass M hr.room hx (pv 0) t_null)) (pss_one (ps_ret (pe_tup (pa_cons pe_str (pa_cons pe_non pa_nil))))) pss_nil)
      (pss_cons (ps_if (pt_P (pe_cPass M hr.room hx (pv 0) t_one)) (pss_one (ps_ret (pe_tup (pa_cons pe_str (pa_cons (pe_rd D_read_enclosed (hr.mono (by omega)) (by rfl) hx (pv 0)) pa_nil))))) pss_nil)
      (pss_cons (ps_if (pt_P (pe_cPass M hr.room hx (pv 0) t_case)) (pss_one (ps_ret (pe_rd D_read_case (hr.mono (by omega)) (by rfl) hx (pv 0)))) pss_nil)
      (pss_cons (ps_if (pt_P (pe_cPass M hr.room hx (pv 0) t_coalesce)) (pss_one (ps_ret (pe_rd D_read_coalesce (hr.mono (by omega)) (by rfl) hx (pv 0)))) pss_nil)
      (pss_cons (ps_if (pt_P (pe_cPass M hr.room hx (pv 0) t_count)) (pss_one (ps_ret (pe_rd D_read_count (hr.mono (by omega)) (by rfl) hx (pv 0)))) pss_nil)
      (pss_cons (ps_if (pt_P (pe_cSees3 M hr.room hx (pv 0) t_sum t_least t_most)) (pss_cons (ps_set (i := 1) sc_read_bare_factor.nd rfl (Or.inl rfl) (pe_cStep M hr.room hx (pv 0)))
      (pss_one (ps_ret (pe_tup (pa_cons (pv 1) (pa_cons (pe_rd D_read_parenthesized (hr.mono (by omega)) (by rfl) hx (pv 0)) pa_nil)))))) pss_nil)
      (pss_one (ps_ret (pe_ifExp (pt_P (pe_cSees1 M hr.room hx (pv 0) t_op)) (pe_rd D_read_parenthesized (hr.mono (by omega)) (by rfl) hx (pv 0)) (pe_rd D_read_column (hr.mono (by omega)) (by rfl) hx (pv 0)))))))))))))), ?_⟩
  refine goB rfl hc o h (fun us d H1 o q tu hc h => iteT ?_) (fun us d H1 o q tu hc h => iteF ?_)
  · skip
    refine goP rfl hc o h fun x us d v1 H1 o q tu hc h1 h => ?_
    exact ⟨(by decide : 2 ≤ sizeLine), fun p hp => retT h o hc hp (.cons (rt_str t_value) (.cons h1 .nil))⟩
  · skip
    refine goB rfl hc o h (fun us d H1 o q tu hc h => iteT ?_) (fun us d H1 o q tu hc h => iteF ?_)
    · skip
      refine goP rfl hc o h fun x us d v1 H1 o q tu hc h1 h => ?_
      exact ⟨(by decide : 2 ≤ sizeLine), fun p hp => retT h o hc hp (.cons (rt_str t_value) (.cons h1 .nil))⟩
    · skip
      refine goB rfl hc o h (fun us d H1 o q tu hc h => iteT ?_) (fun us d H1 o q tu hc h => iteF ?_)
      · skip
        refine goP rfl hc o h fun x us d v1 H1 o q tu hc h1 h => ?_
        exact ⟨(by decide : 2 ≤ sizeLine), fun p hp => retT h o hc hp (.cons (rt_str t_param) (.cons h1 .nil))⟩
      · skip
        refine goB rfl hc o h (fun us d H1 o q tu hc h => iteT ?_) (fun us d H1 o q tu hc h => iteF ?_)
        · skip
          exact ⟨(by decide : 2 ≤ sizeLine), fun p hp => retT h o hc hp (.cons (rt_str t_value) (.cons .non .nil))⟩
        · skip
          refine goB rfl hc o h (fun us d H1 o q tu hc h => iteT ?_) (fun us d H1 o q tu hc h => iteF ?_)
          · skip
            refine goP rfl hc o h fun x us d v1 H1 o q tu hc h1 h => ?_
            exact ⟨(by decide : 2 ≤ sizeLine), fun p hp => retT h o hc hp (.cons (rt_str t_one) (.cons h1 .nil))⟩
          · skip
            refine goB rfl hc o h (fun us d H1 o q tu hc h => iteT ?_) (fun us d H1 o q tu hc h => iteF ?_)
            · skip
              exact goT rfl hc o h
            · skip
              refine goB rfl hc o h (fun us d H1 o q tu hc h => iteT ?_) (fun us d H1 o q tu hc h => iteF ?_)
              · skip
                exact goT rfl hc o h
              · skip
                refine goB rfl hc o h (fun us d H1 o q tu hc h => iteT ?_) (fun us d H1 o q tu hc h => iteF ?_)
                · skip
                  exact goT rfl hc o h
                · skip
                  refine goB rfl hc o h (fun us d H1 o q tu hc h => iteT ?_) (fun us d H1 o q tu hc h => iteF ?_)
                  · skip
                    refine goP rfl hc o h fun z us d v1 H1 o q tu hc h1 h => ?_
                    refine ⟨_, rfl, ?_⟩
                    refine goP rfl hc o h fun e us d v2 H1 o q tu hc h2 h => ?_
                    have h1 := h1.tups tu
                    exact ⟨(by decide : 2 ≤ sizeLine), fun p hp => retT h o hc hp (.cons h1 (.cons h2 .nil))⟩
                  · skip
                    refine goB rfl hc o h (fun us d H1 o q tu hc h => iteT ?_) (fun us d H1 o q tu hc h => iteF ?_)
                    · skip
                      exact goT rfl hc o h
                    · skip
                      exact goT rfl hc o h
theorem sc_read_factor : FnScope ["cursor", "many", "tree", "_"] ["cursor"] (defScope sReadFactor) := ⟨rfl, rfl, rfl, by decide +kernel, rfl, by decide +kernel, by decide +kernel⟩
theorem ok_read_factor (F : Fun K "read_factor" "read_factor" sReadFactor f fd) (B : Blt mg) (M : Cur P w K mg base CC CN) (D_read_bare_factor : DnM P w K mg base (b + 3) "read_bare_factor" (spC CC CN RtAt (rBare R))) : FnM P w K mg base (b + 4) f (spC CC CN RtAt (rFactor R)) := by
  refine fnm_of F sc_read_factor (F.binds fun _ _ _ _ _ _ us hl => match us, hl with | [_], _ => rfl) (fun vs H Q E ⟨_, _, _, e, _⟩ => by rw [e]; rfl) (fun cdv A outer s H vs Q E hr h => ?_)
  obtain ⟨c, ws, d, rfl, hc, h⟩ := h
  have hx : Passes (L2.CX P w) (cxOf (L2.CX P w) P w K mg base ["cursor", "many", "tree", "_"] "read_factor" (defScope sReadFactor) f cdv A outer s H E) E := pass_up (takes_of rfl rfl rfl rfl)
  have po : PassesOwn (model P w) (cxOf (L2.CX P w) P w K mg base ["cursor", "many", "tree", "_"] "read_factor" (defScope sReadFactor) f cdv A outer s H E).A (cxOf (L2.CX P w) P w K mg base ["cursor", "many", "tree", "_"] "read_factor" (defScope sReadFactor) f cdv A outer s H E).env (cxOf (L2.CX P w) P w K mg base ["cursor", "many", "tree", "_"] "read_factor" (defScope sReadFactor) f cdv A outer s H E).xe := passes_of rfl
  have o := OffA.refl H c
  refine ⟨_, (pss_cons (ps_set (i := 1) sc_read_factor.nd rfl (Or.inl rfl) pe_int)
      (pss_cons (ps_while po (pt_P (pe_cPass M hr.room hx (pv 0) t_minus)) (pss_one (ps_aug (i := 1) sc_read_factor.nd rfl (Or.inl rfl) pe_int ip_add)))
      (pss_cons (ps_if (pw_and (pt_cmpR op_gt (pv 1) pe_int (nomark _)) (pw_and1 (pt_P (pe_cHold (E := E) .int M hr.room (pv 0) rfl (by rfl))))).pt (pss_cons (ps_set (i := 2) sc_read_factor.nd rfl (Or.inl rfl) (pe_tup (pa_cons pe_str (pa_cons (pe_un un_neg (pe_cTake .int M hr.room hx (pv 0) rfl (by rfl))) pa_nil))))
      (pss_one (ps_aug (i := 1) sc_read_factor.nd rfl (Or.inl rfl) pe_int ip_sub))) (pss_one (ps_set (i := 2) sc_read_factor.nd rfl (Or.inl rfl) (pe_rd D_read_bare_factor (hr.mono (by omega)) (by rfl) hx (pv 0)))))
      (pss_cons (ps_for po rfl (pi_range1 (by rfl) B.range (pa_cons (pv 1) pa_nil)) (pg_name (i := 3) sc_read_factor.nd rfl (Or.inl rfl)) (pss_one (ps_set (i := 2) sc_read_factor.nd rfl (Or.inl rfl) (pe_tup (pa_cons pe_str (pa_cons (pe_tup (pa_cons pe_str (pa_cons pe_int pa_nil))) (pa_cons (pv 2) pa_nil)))))))
      (pss_one (ps_ret (pv 2))))))), ?_⟩
  refine whl_go (R := fun n m σ H => σ = [some (.ref c), some (.int (m : Nat)), none, none] ∧ m + n ≤ 10001) (fun z => by rw [z.1]; rfl) (fun z _ _ _ => z) (fun n m σ H ws d D' _ o hc R h => ?_) hc o h ⟨rfl, by have := hc.len; omega⟩ (fun n m us d σ H1 o hc R h => ?_)
  · obtain ⟨rfl, l⟩ := R
    exact ⟨_, rfl, _, _, rfl, rfl, ret_to h _ _ o hc ⟨rfl, by omega⟩⟩
  obtain ⟨rfl, l⟩ := R
  cases m with
  | zero =>
    refine ⟨_, rfl, _, _, rfl, rfl, _, rfl, iteF (iteF ?_)⟩
    have h := to_ret (f := rBare R) h
    refine goP rfl hc o h fun tt us d v1 H1 o q tu hc ht h => ?_
    · refine ⟨_, rfl, (0 : Nat), rfl, by omega, by omega, for_range (n := 0) (fun _ σ H2 => σ = [some (.ref c), some (.int (0 : Nat)), some v1, none] ∧ H2 = H1) ⟨rfl, rfl⟩ (fun i σ H2 hi R => absurd hi (Nat.not_lt_zero _)) (fun σ H2 R => ?_)⟩
      obtain ⟨rfl, rfl⟩ := R
      exact ⟨_, rfl, retV h o hc ht⟩
  | succ m =>
    refine ⟨_, rfl, _, _, rfl, rfl, _, rfl, ?_⟩
    rw [show decide ((0 : Int) < (((m + 1 : Nat) : Nat) : Int)) = true from decide_eq_true (by omega)]
    refine iteT ?_
    refine goB rfl hc o h (fun us d H1 o q tu hc h => iteT ?_) (fun us d H1 o q tu hc h => iteF ?_)
    · skip
      refine goP rfl hc o h fun xx us d v1 H1 o q tu hc hx h => ?_
      cases xx with
      | int ii =>
        cases hx
        refine ⟨ii, rfl, (by decide : 2 ≤ sizeLine), fun p0 hp0 => ⟨_, rfl, _, _, rfl, rfl, ?_⟩⟩
        have ht := mkT hp0 (.cons (rt_str t_value) (.cons (.int (-ii)) .nil))
        have o := o.new hp0 (.tup [.str "value", .int (-ii)])
        have hc := hc.new hp0 (.tup [.str "value", .int (-ii)])
        obtain ⟨mm, em⟩ : ∃ mm, mm = m := ⟨_, rfl⟩
        have ez : (((m + 1 : Nat) : Nat) : Int) - 1 = ((mm : Nat) : Int) := by omega
        dsimp only
        rw [ez]
        have h : (ret (negs mm (tag w_value [.int (-ii)])) us d).to (OkP CC c RtAt H Q) (ErP CN c H E) := by rw [em]; exact h
        obtain ⟨tt, et⟩ : ∃ tt, tt = tag w_value [.int (-ii)] := ⟨_, rfl⟩
        rw [← et] at h
        rw [show Tr.tup [Tr.str w_value, Tr.int (-ii)] = tt from et.symm] at ht
        refine ⟨_, rfl, (mm : Nat), rfl, by omega, by omega, for_range (n := mm) (fun i σ H2 => ∃ v x t, σ = [some (.ref c), some (.int (mm : Nat)), some v, x] ∧ RtAt H2 v t ∧ negs (mm - i) t = negs mm tt ∧ OffA H H2 c ∧ CurAt CC H2 c us d) ⟨_, _, tt, rfl, ht, rfl, o, hc⟩ (fun i σ H2 hi R => ?_) (fun σ H2 R => ?_)⟩
        · obtain ⟨v, x, t, rfl, ht, et, o, hc⟩ := R
          refine ⟨(by decide : 2 ≤ sizeLine), fun p1 hp1 => ⟨_, rfl, (by decide : 3 ≤ sizeLine), fun p hp => ⟨_, _, tag w_minus [tag w_value [.int 0], t], rfl, ?_, ?_, (o.new hp1 _).new hp _, (hc.new hp1 _).new hp _⟩⟩⟩
          · exact mkT hp (.cons (rt_str t_minus) (.cons (mkT hp1 (.cons (rt_str t_value) (.cons (.int 0) .nil))) (.cons (ht.tups (Tups.of_same (same_new hp1 _))) .nil)))
          · rw [← et, show mm - i = (mm - (i + 1)) + 1 by omega]
            rfl
        · obtain ⟨v, x, t, rfl, ht, et, o, hc⟩ := R
          rw [Nat.sub_self] at et
          have et : t = negs mm tt := et
          refine ⟨_, rfl, ?_⟩
          rw [← et] at h
          exact retV h o hc ht
      | non => exact h.elim
      | bl _ => exact h.elim
      | str _ => exact h.elim
      | tup _ => exact h.elim
    · skip
      refine goP rfl hc o h fun tt us d v1 H1 o q tu hc ht h => ?_
      obtain ⟨mm, em⟩ : ∃ mm, mm = m + 1 := ⟨_, rfl⟩
      rw [← em] at h l ⊢
      refine ⟨_, rfl, (mm : Nat), rfl, by omega, by omega, for_range (n := mm) (fun i σ H2 => ∃ v x t, σ = [some (.ref c), some (.int (mm : Nat)), some v, x] ∧ RtAt H2 v t ∧ negs (mm - i) t = negs mm tt ∧ OffA H H2 c ∧ CurAt CC H2 c us d) ⟨_, _, tt, rfl, ht, rfl, o, hc⟩ (fun i σ H2 hi R => ?_) (fun σ H2 R => ?_)⟩
      · obtain ⟨v, x, t, rfl, ht, et, o, hc⟩ := R
        refine ⟨(by decide : 2 ≤ sizeLine), fun p1 hp1 => ⟨_, rfl, (by decide : 3 ≤ sizeLine), fun p hp => ⟨_, _, tag w_minus [tag w_value [.int 0], t], rfl, ?_, ?_, (o.new hp1 _).new hp _, (hc.new hp1 _).new hp _⟩⟩⟩
        · exact mkT hp (.cons (rt_str t_minus) (.cons (mkT hp1 (.cons (rt_str t_value) (.cons (.int 0) .nil))) (.cons (ht.tups (Tups.of_same (same_new hp1 _))) .nil)))
        · rw [← et, show mm - i = (mm - (i + 1)) + 1 by omega]
          rfl
      · obtain ⟨v, x, t, rfl, ht, et, o, hc⟩ := R
        rw [Nat.sub_self] at et
        have et : t = negs mm tt := et
        refine ⟨_, rfl, ?_⟩
        rw [← et] at h
        exact retV h o hc ht
theorem sc_read_product : FnScope ["cursor", "tree"] ["cursor"] (defScope sReadProduct) := ⟨rfl, rfl, rfl, by decide +kernel, rfl, by decide +kernel, by decide +kernel⟩
theorem ok_read_product (F : Fun K "read_product" "read_product" sReadProduct f fd) (M : Cur P w K mg base CC CN) (D_read_factor : DnM P w K mg base (b + 4) "read_factor" (spC CC CN RtAt (rFactor R))) : FnM P w K mg base (b + 5) f (spC CC CN RtAt (rProduct R)) := by
  refine fnm_of F sc_read_product (F.binds fun _ _ _ _ _ _ us hl => match us, hl with | [_], _ => rfl) (fun vs H Q E ⟨_, _, _, e, _⟩ => by rw [e]; rfl) (fun cdv A outer s H vs Q E hr h => ?_)
  obtain ⟨c, ws, d, rfl, hc, h⟩ := h
  have hx : Passes (L2.CX P w) (cxOf (L2.CX P w) P w K mg base ["cursor", "tree"] "read_product" (defScope sReadProduct) f cdv A outer s H E) E := pass_up (takes_of rfl rfl rfl rfl)
  have po : PassesOwn (model P w) (cxOf (L2.CX P w) P w K mg base ["cursor", "tree"] "read_product" (defScope sReadProduct) f cdv A outer s H E).A (cxOf (L2.CX P w) P w K mg base ["cursor", "tree"] "read_product" (defScope sReadProduct) f cdv A outer s H E).env (cxOf (L2.CX P w) P w K mg base ["cursor", "tree"] "read_product" (defScope sReadProduct) f cdv A outer s H E).xe := passes_of rfl
  have o := OffA.refl H c
  refine ⟨_, (pss_cons (ps_set (i := 1) sc_read_product.nd rfl (Or.inl rfl) (pe_rd D_read_factor (hr.mono (by omega)) (by rfl) hx (pv 0)))
      (pss_cons (ps_while po (pt_P (pe_cPass M hr.room hx (pv 0) t_star)) (pss_one (ps_set (i := 1) sc_read_product.nd rfl (Or.inl rfl) (pe_tup (pa_cons pe_str (pa_cons (pv 1) (pa_cons (pe_rd D_read_factor (hr.mono (by omega)) (by rfl) hx (pv 0)) pa_nil)))))))
      (pss_one (ps_ret (pv 1))))), ?_⟩
  refine goP rfl hc o h fun t us d v1 H1 o q tu hc h1 h => ?_
  have h := to_ret h
  refine whl_go (R := fun _ t σ H => ∃ v, σ = [some (.ref c), some v] ∧ RtAt H v t) (fun z => by obtain ⟨_, e, _⟩ := z; rw [e]; rfl) (fun z hc _ o2 => let ⟨v, e, r⟩ := z; ⟨v, e, r.tups (o2.tups hc)⟩) (fun n t σ H1 us d D' _ o hc R h => ?_) hc o h ⟨_, rfl, h1⟩ (fun n t us d σ H1 o hc R h => ?_)
  · obtain ⟨v1, rfl, h1⟩ := R
    refine ⟨_, rfl, goP rfl hc o h fun u us d v2 H1 o q tu hc h2 h => ⟨(by decide : 3 ≤ sizeLine), fun p hp => ret_to h _ _ (o.new hp _) (hc.new hp _) ⟨_, rfl, mkT hp (.cons (rt_str t_star) (.cons (h1.tups tu) (.cons h2 .nil)))⟩⟩⟩
  · obtain ⟨v1, rfl, h1⟩ := R
    exact ⟨_, rfl, retV h o hc h1⟩
theorem sc_read_sum : FnScope ["cursor", "tree", "sign"] ["cursor"] (defScope sReadSum) := ⟨rfl, rfl, rfl, by decide +kernel, rfl, by decide +kernel, by decide +kernel⟩
theorem ok_read_sum (F : Fun K "read_sum" "read_sum" sReadSum f fd) (M : Cur P w K mg base CC CN) (D_read_product : DnM P w K mg base (b + 5) "read_product" (spC CC CN RtAt (rProduct R))) : FnM P w K mg base (b + 6) f (spC CC CN RtAt (rSum R)) := by
  refine fnm_of F sc_read_sum (F.binds fun _ _ _ _ _ _ us hl => match us, hl with | [_], _ => rfl) (fun vs H Q E ⟨_, _, _, e, _⟩ => by rw [e]; rfl) (fun cdv A outer s H vs Q E hr h => ?_)
  obtain ⟨c, ws, d, rfl, hc, h⟩ := h
  have hx : Passes (L2.CX P w) (cxOf (L2.CX P w) P w K mg base ["cursor", "tree", "sign"] "read_sum" (defScope sReadSum) f cdv A outer s H E) E := pass_up (takes_of rfl rfl rfl rfl)
  have po : PassesOwn (model P w) (cxOf (L2.CX P w) P w K mg base ["cursor", "tree", "sign"] "read_sum" (defScope sReadSum) f cdv A outer s H E).A (cxOf (L2.CX P w) P w K mg base ["cursor", "tree", "sign"] "read_sum" (defScope sReadSum) f cdv A outer s H E).env (cxOf (L2.CX P w) P w K mg base ["cursor", "tree", "sign"] "read_sum" (defScope sReadSum) f cdv A outer s H E).xe := passes_of rfl
  have o := OffA.refl H c
  refine ⟨_, (pss_cons (ps_set (i := 1) sc_read_sum.nd rfl (Or.inl rfl) (pe_rd D_read_product (hr.mono (by omega)) (by rfl) hx (pv 0)))
      (pss_cons (ps_while po (pt_P (pe_cSees2 M hr.room hx (pv 0) t_plus t_minus)) (pss_cons (ps_set (i := 2) sc_read_sum.nd rfl (Or.inl rfl) (pe_cStep M hr.room hx (pv 0)))
      (pss_one (ps_set (i := 1) sc_read_sum.nd rfl (Or.inl rfl) (pe_tup (pa_cons (pv 2) (pa_cons (pv 1) (pa_cons (pe_rd D_read_product (hr.mono (by omega)) (by rfl) hx (pv 0)) pa_nil))))))))
      (pss_one (ps_ret (pv 1))))), ?_⟩
  refine goP rfl hc o h fun t us d v1 H1 o q tu hc h1 h => ?_
  have h := to_ret h
  refine whl_go (R := fun _ t σ H => ∃ v x, σ = [some (.ref c), some v, x] ∧ RtAt H v t) (fun z => by obtain ⟨_, _, e, _⟩ := z; rw [e]; rfl) (fun z hc _ o2 => let ⟨v, x, e, r⟩ := z; ⟨v, x, e, r.tups (o2.tups hc)⟩) (fun n t σ H1 us d D' _ o hc R h => ?_) hc o h ⟨_, _, rfl, h1⟩ (fun n t us d σ H1 o hc R h => ?_)
  · obtain ⟨v1, x, rfl, h1⟩ := R
    refine goP rfl hc o h fun z us d v3 H1 o q tu hc h3 h => ?_
    have h1 := h1.tups tu
    refine ⟨_, rfl, _, rfl, goP rfl hc o h fun u us d v2 H1 o q tu hc h2 h => ⟨(by decide : 3 ≤ sizeLine), fun p hp => ret_to h _ _ (o.new hp _) (hc.new hp _) ⟨_, _, rfl, mkT hp (.cons (h3.tups tu) (.cons (h1.tups tu) (.cons h2 .nil)))⟩⟩⟩
  · obtain ⟨v1, x, rfl, h1⟩ := R
    exact ⟨_, rfl, retV h o hc h1⟩
theorem sc_read_is : FnScope ["cursor", "left", "is_not", "tree"] ["cursor", "left"] (defScope sReadIs) := ⟨rfl, rfl, rfl, by decide +kernel, rfl, by decide +kernel, by decide +kernel⟩
theorem ok_read_is (F : Fun K "read_is" "read_is" sReadIs f fd) (M : Cur P w K mg base CC CN) (D_read_sum : DnM P w K mg base (b + 6) "read_sum" (spC CC CN RtAt (rSum R))) : FnM P w K mg base (b + 7) f (spC1 CC CN RtAt (rIs R)) := by
  refine fnm_of F sc_read_is (F.binds fun _ _ _ _ _ _ us hl => match us, hl with | [_, _], _ => rfl) (fun vs H Q E ⟨_, _, _, _, _, e, _⟩ => by rw [e]; rfl) (fun cdv A outer s H vs Q E hr h => ?_)
  obtain ⟨c, v0, t0, ws, d, rfl, ht0, hc, h⟩ := h
  have hx : Passes (L2.CX P w) (cxOf (L2.CX P w) P w K mg base ["cursor", "left", "is_not", "tree"] "read_is" (defScope sReadIs) f cdv A outer s H E) E := pass_up (takes_of rfl rfl rfl rfl)
  have o := OffA.refl H c
  refine ⟨_, (pss_cons (ps_set (i := 2) sc_read_is.nd rfl (Or.inl rfl) (pe_cPass M hr.room hx (pv 0) t_not))
      (pss_cons (ps_set (i := 3) sc_read_is.nd rfl (Or.inl rfl) (pe_ifExp (pt_P (pe_cPass M hr.room hx (pv 0) t_null)) (pe_tup (pa_cons pe_str (pa_cons (pv 1) pa_nil))) (pe_tup (pa_cons pe_str (pa_cons (pv 1) (pa_cons (pe_rd D_read_sum (hr.mono (by omega)) (by rfl) hx (pv 0)) pa_nil))))))
      (pss_one (ps_ret (pe_ifExp (pt_val (pv 2)) (pe_tup (pa_cons pe_str (pa_cons (pv 3) pa_nil))) (pv 3)))))), ?_⟩
  refine goP rfl hc o h fun b2 us d v2 H1 o q tu hc eb2 h => ?_
  have ht0 := ht0.tups tu
  obtain rfl : v2 = V.bl b2 := eb2
  refine goB rfl hc o h (fun us d H1 o q tu hc h => iteT ?_) (fun us d H1 o q tu hc h => iteF ?_)
  · skip
    have ht0 := ht0.tups tu
    refine ⟨_, rfl, (by decide : 2 ≤ sizeLine), fun p1 hp1 => ?_⟩
    have hn := mkT hp1 (.cons (rt_str t_null) (.cons ht0 .nil))
    have o := o.new hp1 (.tup [.str "null", v0])
    have hc := hc.new hp1 (.tup [.str "null", v0])
    refine ⟨_, rfl, _, rfl, ?_⟩
    cases b2 with
    | true =>
      refine iteT ⟨_, rfl, (by decide : 2 ≤ sizeLine), fun p hp => ?_⟩
      exact retT h o hc hp (.cons (rt_str t_not) (.cons hn .nil))
    | false => exact iteF ⟨_, rfl, retV h o hc hn⟩
  · skip
    have ht0 := ht0.tups tu
    refine ⟨_, rfl, ?_⟩
    refine goP rfl hc o h fun u us d v3 H1 o q tu hc h3 h => ?_
    have ht0 := ht0.tups tu
    refine ⟨(by decide : 3 ≤ sizeLine), fun p1 hp1 => ?_⟩
    have hn := mkT hp1 (.cons (rt_str t_is) (.cons ht0 (.cons h3 .nil)))
    have o := o.new hp1 (.tup [.str "is", v0, v3])
    have hc := hc.new hp1 (.tup [.str "is", v0, v3])
    refine ⟨_, rfl, _, rfl, ?_⟩
    cases b2 with
    | true =>
      refine iteT ⟨_, rfl, (by decide : 2 ≤ sizeLine), fun p hp => ?_⟩
      exact retT h o hc hp (.cons (rt_str t_not) (.cons hn .nil))
    | false => exact iteF ⟨_, rfl, retV h o hc hn⟩
theorem sc_read_comparison : FnScope ["cursor", "left", "sign", "word"] ["cursor", "left"] (defScope sReadComparison) := ⟨rfl, rfl, rfl, by decide +kernel, rfl, by decide +kernel, by decide +kernel⟩
theorem ok_read_comparison (F : Fun K "read_comparison" "read_comparison" sReadComparison f fd) (M : Cur P w K mg base CC CN) (D_read_sum : DnM P w K mg base (b + 6) "read_sum" (spC CC CN RtAt (rSum R))) (D_read_enclosed : DnM P w K mg base (b + 1) "read_enclosed" (spC CC CN RtAt (rEnclosed R))) : FnM P w K mg base (b + 7) f (spC1 CC CN RtAt (rComparison R)) := by
  refine fnm_of F sc_read_comparison (F.binds fun _ _ _ _ _ _ us hl => match us, hl with | [_, _], _ => rfl) (fun vs H Q E ⟨_, _, _, _, _, e, _⟩ => by rw [e]; rfl) (fun cdv A outer s H vs Q E hr h => ?_)
  obtain ⟨c, v0, t0, ws, d, rfl, ht0, hc, h⟩ := h
  have hx : Passes (L2.CX P w) (cxOf (L2.CX P w) P w K mg base ["cursor", "left", "sign", "word"] "read_comparison" (defScope sReadComparison) f cdv A outer s H E) E := pass_up (takes_of rfl rfl rfl rfl)
  have o := OffA.refl H c
  refine ⟨_, (pss_cons (ps_set (i := 2) sc_read_comparison.nd rfl (Or.inl rfl) (pe_cStep M hr.room hx (pv 0)))
      (pss_cons (ps_if (pt_P (pe_cSees2 M hr.room hx (pv 0) t_any t_all)) (pss_cons (ps_set (i := 3) sc_read_comparison.nd rfl (Or.inl rfl) (pe_cStep M hr.room hx (pv 0)))
      (pss_one (ps_ret (pe_tup (pa_cons (pv 3) (pa_cons (pv 2) (pa_cons (pv 1) (pa_cons (pe_rd D_read_enclosed (hr.mono (by omega)) (by rfl) hx (pv 0)) pa_nil)))))))) pss_nil)
      (pss_one (ps_ret (pe_tup (pa_cons (pv 2) (pa_cons (pv 1) (pa_cons (pe_rd D_read_sum (hr.mono (by omega)) (by rfl) hx (pv 0)) pa_nil)))))))), ?_⟩
  refine goP rfl hc o h fun z us d v1 H1 o q tu hc h1 h => ?_
  have ht0 := ht0.tups tu
  refine goB rfl hc o h (fun us d H1 o q tu hc h => iteT ?_) (fun us d H1 o q tu hc h => iteF ?_)
  · skip
    have ht0 := ht0.tups tu
    have h1 := h1.tups tu
    refine goP rfl hc o h fun w2 us d v2 H1 o q tu hc h2 h => ?_
    have ht0 := ht0.tups tu
    have h1 := h1.tups tu
    refine ⟨_, rfl, ?_⟩
    refine ⟨_, rfl, ?_⟩
    refine ⟨_, rfl, ?_⟩
    refine goP rfl hc o h fun q2 us d v3 H1 o q tu hc h3 h => ?_
    have ht0 := ht0.tups tu
    have h1 := h1.tups tu
    have h2 := h2.tups tu
    exact ⟨(by decide : 4 ≤ sizeLine), fun p hp => retT h o hc hp (.cons h2 (.cons h1 (.cons ht0 (.cons h3 .nil))))⟩
  · skip
    have ht0 := ht0.tups tu
    have h1 := h1.tups tu
    refine ⟨_, rfl, ?_⟩
    refine ⟨_, rfl, ?_⟩
    refine goP rfl hc o h fun u us d v3 H1 o q tu hc h3 h => ?_
    have ht0 := ht0.tups tu
    have h1 := h1.tups tu
    exact ⟨(by decide : 3 ≤ sizeLine), fun p hp => retT h o hc hp (.cons h1 (.cons ht0 (.cons h3 .nil)))⟩
theorem sc_read_test : FnScope ["cursor", "left"] ["cursor"] (defScope sReadTest) := ⟨rfl, rfl, rfl, by decide +kernel, rfl, by decide +kernel, by decide +kernel⟩
theorem ok_read_test (F : Fun K "read_test" "read_test" sReadTest f fd) (M : Cur P w K mg base CC CN) {ca : Addr} (hca : mg "COMPARISONS" = some (.ref ca)) (hcT : ∀ H, SqT K H ca (cmpW.map fun z => V.str (So z))) (D_read_enclosed : DnM P w K mg base (b + 1) "read_enclosed" (spC CC CN RtAt (rEnclosed R))) (D_read_is : DnM P w K mg base (b + 7) "read_is" (spC1 CC CN RtAt (rIs R))) (D_read_comparison : DnM P w K mg base (b + 7) "read_comparison" (spC1 CC CN RtAt (rComparison R))) (D_read_sum : DnM P w K mg base (b + 6) "read_sum" (spC CC CN RtAt (rSum R))) : FnM P w K mg base (b + 8) f (spC CC CN RtAt (rTest R)) := by
  refine fnm_of F sc_read_test (F.binds fun _ _ _ _ _ _ us hl => match us, hl with | [_], _ => rfl) (fun vs H Q E ⟨_, _, _, e, _⟩ => by rw [e]; rfl) (fun cdv A outer s H vs Q E hr h => ?_)
  obtain ⟨c, ws, d, rfl, hc, h⟩ := h
  have hx : Passes (L2.CX P w) (cxOf (L2.CX P w) P w K mg base ["cursor", "left"] "read_test" (defScope sReadTest) f cdv A outer s H E) E := pass_up (takes_of rfl rfl rfl rfl)
  have o := OffA.refl H c
  refine ⟨_, (pss_cons (ps_if (pt_P (pe_cPass M hr.room hx (pv 0) t_exists)) (pss_one (ps_ret (pe_tup (pa_cons pe_str (pa_cons (pe_rd D_read_enclosed (hr.mono (by omega)) (by rfl) hx (pv 0)) pa_nil))))) pss_nil)
      (pss_cons (ps_set (i := 1) sc_read_test.nd rfl (Or.inl rfl) (pe_rd D_read_sum (hr.mono (by omega)) (by rfl) hx (pv 0)))
      (pss_cons (ps_if (pt_P (pe_cSeesS cmpW M hr.room hx (pv 0) (pe_glob (v := .ref ca) (by rfl) hca rfl) ⟨ca, rfl, hcT⟩ (by decide))) (pss_one (ps_ret (pe_rd1 D_read_comparison (hr.mono (by omega)) (by rfl) hx (pv 0) (pv 1)))) pss_nil)
      (pss_cons (ps_if (pt_P (pe_cPass M hr.room hx (pv 0) t_is)) (pss_one (ps_ret (pe_rd1 D_read_is (hr.mono (by omega)) (by rfl) hx (pv 0) (pv 1)))) pss_nil)
      (pss_cons (ps_if (pt_P (pe_cPass M hr.room hx (pv 0) t_not)) (pss_cons (ps_expr (pe_cExp M hr.room hx (pv 0) t_in))
      (pss_one (ps_ret (pe_tup (pa_cons pe_str (pa_cons (pe_tup (pa_cons pe_str (pa_cons (pv 1) (pa_cons (pe_rd D_read_enclosed (hr.mono (by omega)) (by rfl) hx (pv 0)) pa_nil)))) pa_nil)))))) pss_nil)
      (pss_cons (ps_if (pt_P (pe_cPass M hr.room hx (pv 0) t_in)) (pss_one (ps_ret (pe_tup (pa_cons pe_str (pa_cons (pv 1) (pa_cons (pe_rd D_read_enclosed (hr.mono (by omega)) (by rfl) hx (pv 0)) pa_nil)))))) pss_nil)
      (pss_one (ps_ret (pv 1))))))))), ?_⟩
  refine goB rfl hc o h (fun us d H1 o q tu hc h => iteT ?_) (fun us d H1 o q tu hc h => iteF ?_)
  · skip
    refine goP rfl hc o h fun q2 us d v1 H1 o q tu hc h1 h => ?_
    exact ⟨(by decide : 2 ≤ sizeLine), fun p hp => retT h o hc hp (.cons (rt_str t_exists) (.cons h1 .nil))⟩
  · skip
    refine goP rfl hc o h fun l us d v1 H1 o q tu hc h1 h => ?_
    refine goB rfl hc o h (fun us d H1 o q tu hc h => iteT ?_) (fun us d H1 o q tu hc h => iteF ?_)
    · skip
      have h1 := h1.tups tu
      exact ⟨c, rfl, _, rfl, c, _, _, us, d, rfl, h1, hc, sp_tail o h⟩
    · skip
      have h1 := h1.tups tu
      refine goB rfl hc o h (fun us d H1 o q tu hc h => iteT ?_) (fun us d H1 o q tu hc h => iteF ?_)
      · skip
        have h1 := h1.tups tu
        exact ⟨c, rfl, _, rfl, c, _, _, us, d, rfl, h1, hc, sp_tail o h⟩
      · skip
        have h1 := h1.tups tu
        refine goB rfl hc o h (fun us d H1 o q tu hc h => iteT ?_) (fun us d H1 o q tu hc h => iteF ?_)
        · skip
          have h1 := h1.tups tu
          refine goP rfl hc o h fun _ us d _ H1 o q tu hc _ h => ?_
          have h1 := h1.tups tu
          refine ⟨_, rfl, ?_⟩
          refine goP rfl hc o h fun q2 us d v2 H1 o q tu hc h2 h => ?_
          have h1 := h1.tups tu
          refine ⟨(by decide : 3 ≤ sizeLine), fun p1 hp1 => ⟨(by decide : 2 ≤ sizeLine), fun p hp => ?_⟩⟩
          exact retT h (o.new hp1 _) (hc.new hp1 _) hp (.cons (rt_str t_not) (.cons (mkT hp1 (.cons (rt_str t_in) (.cons h1 (.cons h2 .nil)))) .nil))
        · skip
          have h1 := h1.tups tu
          refine goB rfl hc o h (fun us d H1 o q tu hc h => iteT ?_) (fun us d H1 o q tu hc h => iteF ?_)
          · skip
            have h1 := h1.tups tu
            refine ⟨_, rfl, ?_⟩
            refine goP rfl hc o h fun q2 us d v2 H1 o q tu hc h2 h => ?_
            have h1 := h1.tups tu
            exact ⟨(by decide : 3 ≤ sizeLine), fun p hp => retT h o hc hp (.cons (rt_str t_in) (.cons h1 (.cons h2 .nil)))⟩
          · skip
            have h1 := h1.tups tu
            exact ⟨_, rfl, retV h o hc h1⟩
theorem sc_read_no : FnScope ["cursor", "many", "tree", "_"] ["cursor"] (defScope sReadNo) := ⟨rfl, rfl, rfl, by decide +kernel, rfl, by decide +kernel, by decide +kernel⟩
theorem ok_read_no (F : Fun K "read_no" "read_no" sReadNo f fd) (B : Blt mg) (M : Cur P w K mg base CC CN) (D_read_test : DnM P w K mg base (b + 8) "read_test" (spC CC CN RtAt (rTest R))) : FnM P w K mg base (b + 9) f (spC CC CN RtAt (rNo R)) := by
  refine fnm_of F sc_read_no (F.binds fun _ _ _ _ _ _ us hl => match us, hl with | [_], _ => rfl) (fun vs H Q E ⟨_, _, _, e, _⟩ => by rw [e]; rfl) (fun cdv A outer s H vs Q E hr h => ?_)
  obtain ⟨c, ws, d, rfl, hc, h⟩ := h
  have hx : Passes (L2.CX P w) (cxOf (L2.CX P w) P w K mg base ["cursor", "many", "tree", "_"] "read_no" (defScope sReadNo) f cdv A outer s H E) E := pass_up (takes_of rfl rfl rfl rfl)
  have po : PassesOwn (model P w) (cxOf (L2.CX P w) P w K mg base ["cursor", "many", "tree", "_"] "read_no" (defScope sReadNo) f cdv A outer s H E).A (cxOf (L2.CX P w) P w K mg base ["cursor", "many", "tree", "_"] "read_no" (defScope sReadNo) f cdv A outer s H E).env (cxOf (L2.CX P w) P w K mg base ["cursor", "many", "tree", "_"] "read_no" (defScope sReadNo) f cdv A outer s H E).xe := passes_of rfl
  have o := OffA.refl H c
  refine ⟨_, (pss_cons (ps_set (i := 1) sc_read_no.nd rfl (Or.inl rfl) pe_int)
      (pss_cons (ps_while po (pt_P (pe_cPass M hr.room hx (pv 0) t_not)) (pss_one (ps_aug (i := 1) sc_read_no.nd rfl (Or.inl rfl) pe_int ip_add)))
      (pss_cons (ps_set (i := 2) sc_read_no.nd rfl (Or.inl rfl) (pe_rd D_read_test (hr.mono (by omega)) (by rfl) hx (pv 0)))
      (pss_cons (ps_for po rfl (pi_range1 (by rfl) B.range (pa_cons (pv 1) pa_nil)) (pg_name (i := 3) sc_read_no.nd rfl (Or.inl rfl)) (pss_one (ps_set (i := 2) sc_read_no.nd rfl (Or.inl rfl) (pe_tup (pa_cons pe_str (pa_cons (pv 2) pa_nil))))))
      (pss_one (ps_ret (pv 2))))))), ?_⟩
  refine whl_go (R := fun n m σ H => σ = [some (.ref c), some (.int (m : Nat)), none, none] ∧ m + n ≤ 10001) (fun z => by rw [z.1]; rfl) (fun z _ _ _ => z) (fun n m σ H ws d D' _ o hc R h => ?_) hc o h ⟨rfl, by have := hc.len; omega⟩ (fun n m us d σ H1 o hc R h => ?_)
  · obtain ⟨rfl, l⟩ := R
    exact ⟨_, rfl, _, _, rfl, rfl, ret_to h _ _ o hc ⟨rfl, by omega⟩⟩
  obtain ⟨rfl, l⟩ := R
  refine goP rfl hc o h fun tt us d v1 H1 o q tu hc ht h => ?_
  have hm := l
  obtain ⟨mm, em⟩ : ∃ mm, mm = m := ⟨_, rfl⟩
  subst em
  refine ⟨_, rfl, (mm : Nat), rfl, by omega, by omega, for_range (n := mm) (fun i σ H2 => ∃ v x t, σ = [some (.ref c), some (.int (mm : Nat)), some v, x] ∧ RtAt H2 v t ∧ nots (mm - i) t = nots mm tt ∧ OffA H H2 c ∧ CurAt CC H2 c us d) ⟨_, _, tt, rfl, ht, rfl, o, hc⟩ (fun i σ H2 hi R => ?_) (fun σ H2 R => ?_)⟩
  · obtain ⟨v, x, t, rfl, ht, et, o, hc⟩ := R
    refine ⟨_, rfl, (by decide : 2 ≤ sizeLine), fun p hp => ⟨_, _, tag w_not [t], rfl, mkT hp (.cons (rt_str t_not) (.cons ht .nil)), ?_, o.new hp _, hc.new hp _⟩⟩
    rw [← et, show mm - i = (mm - (i + 1)) + 1 by omega]
    rfl
  · obtain ⟨v, x, t, rfl, ht, et, o, hc⟩ := R
    rw [Nat.sub_self] at et
    have et : t = nots mm tt := et
    refine ⟨_, rfl, ?_⟩
    rw [← et] at h
    exact retV h o hc ht
end
end Ask
namespace Ask
open PySem L2 PySem.Spec PyProof.Rows PySem.AskX LamX NdefX
section
variable {P : Program} {w : World} {K : PySem.W.Frag} {mg : Str → Option Value} {base : Heap} {CC CN : Addr} {f : Addr} {fd : FuncData} {R : Rd} {b : Nat}
theorem sc_read_single : FnScope ["cursor", "is_question", "tree", "name", "alias"] ["cursor"] (defScope sReadSingle) := ⟨rfl, rfl, rfl, by decide +kernel, rfl, by decide +kernel, by decide +kernel⟩
theorem ok_read_single (F : Fun K "read_single" "read_single" sReadSingle f fd) (M : Cur P w K mg base CC CN) (D_read_aliased : DnM P w K mg base (b + 1) "read_aliased" (spC1 CC CN RtAt rAliased)) (D_read_opened : DnM P w K mg base b "read_opened" (spC CC CN isO R.O)) : FnM P w K mg base (b + 2) f (spC CC CN RtAt (rSingle R)) := by
  refine fnm_of F sc_read_single (F.binds fun _ _ _ _ _ _ us hl => match us, hl with | [_], _ => rfl) (fun vs H Q E ⟨_, _, _, e, _⟩ => by rw [e]; rfl) (fun cdv A outer s H vs Q E hr h => ?_)
  obtain ⟨c, ws, d, rfl, hc, h⟩ := h
  have hx : Passes (L2.CX P w) (cxOf (L2.CX P w) P w K mg base ["cursor", "is_question", "tree", "name", "alias"] "read_single" (defScope sReadSingle) f cdv A outer s H E) E := pass_up (takes_of rfl rfl rfl rfl)
  have o := OffA.refl H c
  refine ⟨_, (pss_cons (ps_if (pt_P (pe_cSees1 M hr.room hx (pv 0) t_op)) (pss_cons (ps_asg (pe_rd D_read_opened (hr.mono (by omega)) (by rfl) hx (pv 0)) (pg_tup rfl (pgs_cons (pg_name (i := 1) sc_read_single.nd rfl (Or.inl rfl)) (pgs_cons (pg_name (i := 2) sc_read_single.nd rfl (Or.inl rfl)) pgs_nil))))
      (pss_one (ps_ret (pe_ifExp (pt_val (pv 1)) (pe_rd1 D_read_aliased (hr.mono (by omega)) (by rfl) hx (pv 0) (pv 2)) (pv 2))))) pss_nil)
      (pss_cons (ps_set (i := 3) sc_read_single.nd rfl (Or.inl rfl) (pe_cTake .name M hr.room hx (pv 0) rfl (by rfl)))
      (pss_cons (ps_set (i := 4) sc_read_single.nd rfl (Or.inl rfl) (pe_ifExp (pt_P (pe_cPass M hr.room hx (pv 0) t_as)) (pe_cTake .name M hr.room hx (pv 0) rfl (by rfl)) (pv 3)))
      (pss_one (ps_ret (pe_tup (pa_cons pe_str (pa_cons (pv 3) (pa_cons (pv 4) pa_nil))))))))), ?_⟩
  refine goB rfl hc o h (fun us d H1 o q tu hc h => iteT ?_) (fun us d H1 o q tu hc h => iteF ?_)
  · skip
    refine goP rfl hc o h fun x us d v1 H1 o q tu hc h1 h => ?_
    obtain ⟨qb, tt⟩ := x
    cases h1 with
    | tup hp rr =>
    cases rr with
    | cons ha rr =>
    cases rr with
    | cons hb rr =>
    cases rr
    cases ha
    refine ⟨_, _, rfl, SqT.of hp, rfl, _, _, rfl, _, _, rfl, rfl, ?_⟩
    refine ⟨_, rfl, _, rfl, ?_⟩
    cases qb with
    | true => exact iteT ⟨c, rfl, _, rfl, c, _, _, us, d, rfl, hb, hc, sp_tail o h⟩
    | false => exact iteF ⟨_, rfl, retV h o hc hb⟩
  · skip
    refine goP rfl hc o h fun n us d v1 H1 o q tu hc h1 h => ?_
    refine goB rfl hc o h (fun us d H1 o q tu hc h => iteT ?_) (fun us d H1 o q tu hc h => iteF ?_)
    · skip
      have h1 := h1.tups tu
      refine goP rfl hc o h fun m us d v2 H1 o q tu hc h2 h => ?_
      have h1 := h1.tups tu
      refine ⟨_, rfl, ?_⟩
      refine ⟨_, rfl, ?_⟩
      exact ⟨(by decide : 3 ≤ sizeLine), fun p hp => retT h o hc hp (.cons (rt_str t_table) (.cons h1 (.cons h2 .nil)))⟩
    · skip
      have h1 := h1.tups tu
      refine ⟨_, rfl, ?_⟩
      refine ⟨_, rfl, ?_⟩
      refine ⟨_, rfl, ?_⟩
      exact ⟨(by decide : 3 ≤ sizeLine), fun p hp => retT h o hc hp (.cons (rt_str t_table) (.cons h1 (.cons h1 .nil)))⟩
theorem sc_read_joins : FnScope ["cursor", "single", "source", "kind", "other", "condition"] ["cursor", "single"] (defScope sReadJoins) := ⟨rfl, rfl, rfl, by decide +kernel, rfl, by decide +kernel, by decide +kernel⟩
theorem ok_read_joins (F : Fun K "read_joins" "read_joins" sReadJoins f fd) (M : Cur P w K mg base CC CN) (D_read_e : DnM P w K mg base (b + 11) "read_e" (spC CC CN RtAt (rE R))) (D_read_single : DnM P w K mg base (b + 2) "read_single" (spC CC CN RtAt (rSingle R))) (D_read_join_kind : DnM P w K mg base (b + 1) "read_join_kind" (spC CC CN RtAt rKind)) : FnM P w K mg base (b + 12) f (spC1 CC CN RtAt (rJoins R)) := by
  refine fnm_of F sc_read_joins (F.binds fun _ _ _ _ _ _ us hl => match us, hl with | [_, _], _ => rfl) (fun vs H Q E ⟨_, _, _, _, _, e, _⟩ => by rw [e]; rfl) (fun cdv A outer s H vs Q E hr h => ?_)
  obtain ⟨c, v0, t0, ws, d, rfl, ht0, hc, h⟩ := h
  have hx : Passes (L2.CX P w) (cxOf (L2.CX P w) P w K mg base ["cursor", "single", "source", "kind", "other", "condition"] "read_joins" (defScope sReadJoins) f cdv A outer s H E) E := pass_up (takes_of rfl rfl rfl rfl)
  have po : PassesOwn (model P w) (cxOf (L2.CX P w) P w K mg base ["cursor", "single", "source", "kind", "other", "condition"] "read_joins" (defScope sReadJoins) f cdv A outer s H E).A (cxOf (L2.CX P w) P w K mg base ["cursor", "single", "source", "kind", "other", "condition"] "read_joins" (defScope sReadJoins) f cdv A outer s H E).env (cxOf (L2.CX P w) P w K mg base ["cursor", "single", "source", "kind", "other", "condition"] "read_joins" (defScope sReadJoins) f cdv A outer s H E).xe := passes_of rfl
  have o := OffA.refl H c
  refine ⟨_, (pss_cons (ps_set (i := 2) sc_read_joins.nd rfl (Or.inl rfl) (pv 1))
      (pss_cons (ps_while po (pt_P (pe_cSees5 M hr.room hx (pv 0) t_join t_inner t_left t_full t_cross)) (pss_cons (ps_set (i := 3) sc_read_joins.nd rfl (Or.inl rfl) (pe_rd D_read_join_kind (hr.mono (by omega)) (by rfl) hx (pv 0)))
      (pss_cons (ps_set (i := 4) sc_read_joins.nd rfl (Or.inl rfl) (pe_rd D_read_single (hr.mono (by omega)) (by rfl) hx (pv 0)))
      (pss_cons (ps_set (i := 5) sc_read_joins.nd rfl (Or.inl rfl) pe_non)
      (pss_cons (ps_if (pt_cmpR op_ne (pv 3) pe_str (nomark _)) (pss_cons (ps_expr (pe_cExp M hr.room hx (pv 0) t_on))
      (pss_one (ps_set (i := 5) sc_read_joins.nd rfl (Or.inl rfl) (pe_rd D_read_e (hr.mono (by omega)) (by rfl) hx (pv 0))))) pss_nil)
      (pss_one (ps_set (i := 2) sc_read_joins.nd rfl (Or.inl rfl) (pe_tup (pa_cons pe_str (pa_cons (pv 3) (pa_cons (pv 2) (pa_cons (pv 4) (pa_cons (pv 5) pa_nil)))))))))))))
      (pss_one (ps_ret (pv 2))))), ?_⟩
  have h := to_ret h
  refine ⟨_, rfl, whl_go (R := fun _ t σ H => ∃ v x y z, σ = [some (.ref c), some v0, some v, x, y, z] ∧ RtAt H v t) (fun z => by obtain ⟨_, _, _, _, e, _⟩ := z; rw [e]; rfl) (fun z hc _ o2 => let ⟨v, x, y, zz, e, r⟩ := z; ⟨v, x, y, zz, e, r.tups (o2.tups hc)⟩) (fun n t σ H1 us d D' _ o hc R h => ?_) hc o h ⟨_, _, _, _, rfl, ht0⟩ (fun n t us d σ H1 o hc R h => ?_)⟩
  · obtain ⟨v1, x, y, z, rfl, h1⟩ := R
    refine goP rfl hc o h fun kk us d vk H1 o q tu hc hk h => ?_
    have h1 := h1.tups tu
    cases kk with
    | non => exact h.elim
    | bl _ => exact h.elim
    | int _ => exact h.elim
    | tup _ => exact h.elim
    | str zz =>
    cases hk
    refine goP rfl hc o h fun oo us d vo H1 o q tu hc ho h => ?_
    have h1 := h1.tups tu
    refine ⟨_, rfl, rfl, _, rfl, ?_⟩
    by_cases ez : zz = w_cross
    · rw [show decide (V.str (So zz) = V.str "cross") = true from decide_eq_true (by rw [ez, t_cross])]
      rw [if_pos ez] at h
      refine iteF ?_
      refine ⟨_, rfl, _, rfl, _, rfl, _, rfl, ?_⟩
      exact ⟨(by decide : 5 ≤ sizeLine), fun p hp => ret_to h _ _ (o.new hp _) (hc.new hp _) ⟨_, _, _, _, rfl, mkT hp (.cons (rt_str t_join) (.cons (.str zz) (.cons h1 (.cons ho (.cons .non .nil)))))⟩⟩
    · rw [show decide (V.str (So zz) = V.str "cross") = false from decide_eq_false (fun e => ez (So_inj (V.str.inj (e.trans (by rw [t_cross])))))]
      rw [if_neg ez] at h
      refine iteT ?_
      refine goP rfl hc o h fun _ us d _ H1 o q tu hc _ h => ?_
      have h1 := h1.tups tu
      have ho := ho.tups tu
      refine goP rfl hc o h fun ec us d vc H1 o q tu hc hcc h => ?_
      have h1 := h1.tups tu
      have ho := ho.tups tu
      refine ⟨_, rfl, _, rfl, _, rfl, _, rfl, ?_⟩
      exact ⟨(by decide : 5 ≤ sizeLine), fun p hp => ret_to h _ _ (o.new hp _) (hc.new hp _) ⟨_, _, _, _, rfl, mkT hp (.cons (rt_str t_join) (.cons (.str zz) (.cons h1 (.cons ho (.cons hcc .nil)))))⟩⟩
  · obtain ⟨v1, x, y, z, rfl, h1⟩ := R
    exact ⟨_, rfl, retV h o hc h1⟩
theorem sc_read_sources : FnScope ["cursor", "source"] ["cursor"] (defScope sReadSources) := ⟨rfl, rfl, rfl, by decide +kernel, rfl, by decide +kernel, by decide +kernel⟩
theorem ok_read_sources (F : Fun K "read_sources" "read_sources" sReadSources f fd) (M : Cur P w K mg base CC CN) (D_read_joins : DnM P w K mg base (b + 12) "read_joins" (spC1 CC CN RtAt (rJoins R))) (D_read_single : DnM P w K mg base (b + 2) "read_single" (spC CC CN RtAt (rSingle R))) : FnM P w K mg base (b + 13) f (spC CC CN RtAt (rSources R)) := by
  refine fnm_of F sc_read_sources (F.binds fun _ _ _ _ _ _ us hl => match us, hl with | [_], _ => rfl) (fun vs H Q E ⟨_, _, _, e, _⟩ => by rw [e]; rfl) (fun cdv A outer s H vs Q E hr h => ?_)
  obtain ⟨c, ws, d, rfl, hc, h⟩ := h
  have hx : Passes (L2.CX P w) (cxOf (L2.CX P w) P w K mg base ["cursor", "source"] "read_sources" (defScope sReadSources) f cdv A outer s H E) E := pass_up (takes_of rfl rfl rfl rfl)
  have po : PassesOwn (model P w) (cxOf (L2.CX P w) P w K mg base ["cursor", "source"] "read_sources" (defScope sReadSources) f cdv A outer s H E).A (cxOf (L2.CX P w) P w K mg base ["cursor", "source"] "read_sources" (defScope sReadSources) f cdv A outer s H E).env (cxOf (L2.CX P w) P w K mg base ["cursor", "source"] "read_sources" (defScope sReadSources) f cdv A outer s H E).xe := passes_of rfl
  have o := OffA.refl H c
  refine ⟨_, (pss_cons (ps_set (i := 1) sc_read_sources.nd rfl (Or.inl rfl) (pe_rd1 D_read_joins (hr.mono (by omega)) (by rfl) hx (pv 0) (pe_rd D_read_single (hr.mono (by omega)) (by rfl) hx (pv 0))))
      (pss_cons (ps_while po (pt_P (pe_cPass M hr.room hx (pv 0) t_comma)) (pss_one (ps_set (i := 1) sc_read_sources.nd rfl (Or.inl rfl) (pe_tup (pa_cons pe_str (pa_cons pe_str (pa_cons (pv 1) (pa_cons (pe_rd1 D_read_joins (hr.mono (by omega)) (by rfl) hx (pv 0) (pe_rd D_read_single (hr.mono (by omega)) (by rfl) hx (pv 0))) (pa_cons pe_non pa_nil)))))))))
      (pss_one (ps_ret (pv 1))))), ?_⟩
  refine ⟨c, rfl, goP rfl hc o h fun s us d v1 H1 o q tu hc h1 h => ⟨c, v1, s, us, d, rfl, h1, hc, sp_go hc o h fun t us d v1 H1 o q hc h1 h => ?_⟩⟩
  have h := to_ret h
  refine whl_go (R := fun _ t σ H => ∃ v, σ = [some (.ref c), some v] ∧ RtAt H v t) (fun z => by obtain ⟨_, e, _⟩ := z; rw [e]; rfl) (fun z hc _ o2 => let ⟨v, e, r⟩ := z; ⟨v, e, r.tups (o2.tups hc)⟩) (fun n t σ H1 us d D' _ o hc R h => ?_) hc o h ⟨_, rfl, h1⟩ (fun n t us d σ H1 o hc R h => ?_)
  · obtain ⟨v0, rfl, h0⟩ := R
    refine ⟨_, rfl, c, rfl, goP rfl hc o h fun s us d v1 H1 o q tu hc h1 h => ⟨c, v1, s, us, d, rfl, h1, hc, sp_go hc o h fun t2 us d v2 H2 o q2 hc2 h2 h => ?_⟩⟩
    have h0 := (h0.tups tu).tups (q2.tups hc)
    exact ⟨(by decide : 5 ≤ sizeLine), fun p hp => ret_to h _ _ (o.new hp _) (hc2.new hp _) ⟨_, rfl, mkT hp (.cons (rt_str t_join) (.cons (rt_str t_cross) (.cons h0 (.cons h2 (.cons .non .nil)))))⟩⟩
  · obtain ⟨v1, rfl, h1⟩ := R
    exact ⟨_, rfl, retV h o hc h1⟩
theorem sc_read_item : FnScope ["cursor", "e"] ["cursor"] (defScope sReadItem) := ⟨rfl, rfl, rfl, by decide +kernel, rfl, by decide +kernel, by decide +kernel⟩
theorem ok_read_item (F : Fun K "read_item" "read_item" sReadItem f fd) (M : Cur P w K mg base CC CN) (D_read_e : DnM P w K mg base (b + 11) "read_e" (spC CC CN RtAt (rE R))) : FnM P w K mg base (b + 12) f (spC CC CN RtAt (rItem R)) := by
  refine fnm_of F sc_read_item (F.binds fun _ _ _ _ _ _ us hl => match us, hl with | [_], _ => rfl) (fun vs H Q E ⟨_, _, _, e, _⟩ => by rw [e]; rfl) (fun cdv A outer s H vs Q E hr h => ?_)
  obtain ⟨c, ws, d, rfl, hc, h⟩ := h
  have hx : Passes (L2.CX P w) (cxOf (L2.CX P w) P w K mg base ["cursor", "e"] "read_item" (defScope sReadItem) f cdv A outer s H E) E := pass_up (takes_of rfl rfl rfl rfl)
  have o := OffA.refl H c
  refine ⟨_, (pss_cons (ps_set (i := 1) sc_read_item.nd rfl (Or.inl rfl) (pe_rd D_read_e (hr.mono (by omega)) (by rfl) hx (pv 0)))
      (pss_cons (ps_if (pw_and (pt_cmpR op_eq (pe_ix (r := rIxT K) ix_tup (pv 1) pe_int (fun _ _ => rfl)) pe_str (nomark _)) (pw_and1 (pt_not (pt_P (pe_cSees1 M hr.room hx (pv 0) t_as))))).pt (pss_one (ps_ret (pe_tup (pa_cons (pv 1) (pa_cons (pe_ix (r := rIxT K) ix_tup (pv 1) pe_int (fun _ _ => rfl)) pa_nil))))) pss_nil)
      (pss_cons (ps_expr (pe_cExp M hr.room hx (pv 0) t_as))
      (pss_one (ps_ret (pe_tup (pa_cons (pv 1) (pa_cons (pe_cTake .name M hr.room hx (pv 0) rfl (by rfl)) pa_nil)))))))), ?_⟩
  refine goP rfl hc o h fun e us d v1 H1 o q tu hc h1 h => ?_
  cases e with
  | non => exact h.elim
  | bl _ => exact h.elim
  | int _ => exact h.elim
  | str _ => exact h.elim
  | tup xs =>
  cases xs with
  | nil => exact h.elim
  | cons x r =>
  cases x with
  | non => exact h.elim
  | bl _ => exact h.elim
  | int _ => exact h.elim
  | tup _ => exact h.elim
  | str zz =>
  obtain ⟨p0, vs0, rfl, hp0, hr0⟩ : ∃ p vs, v1 = .ref p ∧ H1 p = some (.tup vs) ∧ RtsAt H1 vs (.str zz :: r) := by
    cases h1 with
    | tup hp rr => exact ⟨_, _, rfl, hp, rr⟩
  cases hr0 with
  | cons ha hr0 =>
  cases ha
  by_cases ez : zz = w_column
  · have ed : decide (V.str (So zz) = V.str "column") = true := decide_eq_true (by rw [ez, t_column])
    have h : ((if zz = w_column then rItemCol (.tup (.str zz :: r)) r else rAs (.tup (.str zz :: r))) us d).to (OkP CC c RtAt H Q) (ErP CN c H E) := h
    rw [if_pos ez] at h
    cases r with
    | nil => exact h.elim
    | cons x2 r =>
    cases r with
    | nil => exact h.elim
    | cons n2 r =>
    cases r with
    | cons _ _ => exact h.elim
    | nil =>
    refine ⟨_, rfl, p0, _, 0, .str (So zz), rfl, rfl, SqT.of hp0, atI_nat (j := 0) rfl, rfl, _, rfl, ?_⟩
    rw [ed]
    refine iteT ?_
    refine goB rfl hc o h (fun us d H1 o q tu hc h => iteF ?_) (fun us d H1 o q tu hc h => iteT ?_)
    · have h1 := h1.tups tu
      refine goP rfl hc o h fun _ us d _ H1 o q tu hc _ h => ?_
      have h1 := h1.tups tu
      refine ⟨_, rfl, ?_⟩
      refine goP rfl hc o h fun n us d v2 H1 o q tu hc h2 h => ?_
      have h1 := h1.tups tu
      exact ⟨(by decide : 2 ≤ sizeLine), fun p hp => retT h o hc hp (.cons h1 (.cons h2 .nil))⟩
    · have h1 := h1.tups tu
      have hp0 := tu _ _ hp0
      have hr0 := hr0.tups tu
      cases hr0 with
      | cons hx hr0 =>
      cases hr0 with
      | cons hn hr0 =>
      cases hr0
      refine ⟨_, rfl, _, rfl, p0, _, 2, _, rfl, rfl, SqT.of hp0, rfl, ?_⟩
      exact ⟨(by decide : 2 ≤ sizeLine), fun p hp => retT h o hc hp (.cons h1 (.cons hn .nil))⟩
  · have ed : decide (V.str (So zz) = V.str "column") = false := decide_eq_false (fun e => ez (So_inj (V.str.inj (e.trans (by rw [t_column])))))
    have h : ((if zz = w_column then rItemCol (.tup (.str zz :: r)) r else rAs (.tup (.str zz :: r))) us d).to (OkP CC c RtAt H Q) (ErP CN c H E) := h
    rw [if_neg ez] at h
    refine ⟨_, rfl, p0, _, 0, .str (So zz), rfl, rfl, SqT.of hp0, atI_nat (j := 0) rfl, rfl, _, rfl, ?_⟩
    rw [ed]
    refine iteF (iteF ?_)
    refine goP rfl hc o h fun _ us d _ H1 o q tu hc _ h => ?_
    have h1 := h1.tups tu
    refine ⟨_, rfl, ?_⟩
    refine goP rfl hc o h fun n us d v2 H1 o q tu hc h2 h => ?_
    have h1 := h1.tups tu
    exact ⟨(by decide : 2 ≤ sizeLine), fun p hp => retT h o hc hp (.cons h1 (.cons h2 .nil))⟩
theorem sc_read_select : FnScope ["cursor", "is_distinct", "items", "sources", "where", "groups", "having"] ["cursor"] (defScope sReadSelect) := ⟨rfl, rfl, rfl, by decide +kernel, rfl, by decide +kernel, by decide +kernel⟩
theorem ok_read_select (F : Fun K "read_select" "read_select" sReadSelect f fd) (M : Cur P w K mg base CC CN) (D_read_e : DnM P w K mg base (b + 11) "read_e" (spC CC CN RtAt (rE R))) (D_read_groups : DnM P w K mg base (b + 2) "read_groups" (spC CC CN RtAt rGroups)) (D_read_sources : DnM P w K mg base (b + 13) "read_sources" (spC CC CN RtAt (rSources R))) (D_read_items : DnM P w K mg base (b + 13) "read_items" (spC CC CN RtAt (rItems R))) : FnM P w K mg base (b + 14) f (spC CC CN RtAt (rSelect R)) := by
  refine fnm_of F sc_read_select (F.binds fun _ _ _ _ _ _ us hl => match us, hl with | [_], _ => rfl) (fun vs H Q E ⟨_, _, _, e, _⟩ => by rw [e]; rfl) (fun cdv A outer s H vs Q E hr h => ?_)
  obtain ⟨c, ws, d, rfl, hc, h⟩ := h
  have hx : Passes (L2.CX P w) (cxOf (L2.CX P w) P w K mg base ["cursor", "is_distinct", "items", "sources", "where", "groups", "having"] "read_select" (defScope sReadSelect) f cdv A outer s H E) E := pass_up (takes_of rfl rfl rfl rfl)
  have o := OffA.refl H c
  refine ⟨_, (pss_cons (ps_set (i := 1) sc_read_select.nd rfl (Or.inl rfl) (pe_cPass M hr.room hx (pv 0) t_distinct))
      (pss_cons (ps_set (i := 2) sc_read_select.nd rfl (Or.inl rfl) (pe_rd D_read_items (hr.mono (by omega)) (by rfl) hx (pv 0)))
      (pss_cons (ps_expr (pe_cExp M hr.room hx (pv 0) t_from))
      (pss_cons (ps_set (i := 3) sc_read_select.nd rfl (Or.inl rfl) (pe_rd D_read_sources (hr.mono (by omega)) (by rfl) hx (pv 0)))
      (pss_cons (ps_set (i := 4) sc_read_select.nd rfl (Or.inl rfl) (pe_ifExp (pt_P (pe_cPass M hr.room hx (pv 0) t_where)) (pe_rd D_read_e (hr.mono (by omega)) (by rfl) hx (pv 0)) pe_non))
      (pss_cons (ps_set (i := 5) sc_read_select.nd rfl (Or.inl rfl) (pe_rd D_read_groups (hr.mono (by omega)) (by rfl) hx (pv 0)))
      (pss_cons (ps_set (i := 6) sc_read_select.nd rfl (Or.inl rfl) (pe_ifExp (pt_P (pe_cPass M hr.room hx (pv 0) t_having)) (pe_rd D_read_e (hr.mono (by omega)) (by rfl) hx (pv 0)) pe_non))
      (pss_one (ps_ret (pe_tup (pa_cons pe_str (pa_cons (pv 1) (pa_cons (pv 2) (pa_cons (pv 3) (pa_cons (pv 4) (pa_cons (pv 5) (pa_cons (pv 6) pa_nil))))))))))))))))), ?_⟩
  refine goP rfl hc o h fun dis us d v0 H1 o q tu hc edis h => ?_
  obtain rfl : v0 = V.bl dis := edis
  refine goP rfl hc o h fun is us d v1 H1 o q tu hc h1 h => ?_
  refine goP rfl hc o h fun _ us d _ H1 o q tu hc _ h => ?_
  have h1 := h1.tups tu
  refine goP rfl hc o h fun s us d v2 H1 o q tu hc h2 h => ?_
  have h1 := h1.tups tu
  refine goB rfl hc o h (fun us d H1 o q tu hc h => iteT ?_) (fun us d H1 o q tu hc h => iteF ?_)
  · skip
    have h1 := h1.tups tu
    have h2 := h2.tups tu
    refine goP rfl hc o h fun cc us d v4 H1 o q tu hc h4 h => ?_
    have h1 := h1.tups tu
    have h2 := h2.tups tu
    refine goP rfl hc o h fun gg us d v5 H1 o q tu hc h5 h => ?_
    have h1 := h1.tups tu
    have h2 := h2.tups tu
    have h4 := h4.tups tu
    refine goB rfl hc o h (fun us d H1 o q tu hc h => iteT ?_) (fun us d H1 o q tu hc h => iteF ?_)
    · skip
      have h1 := h1.tups tu
      have h2 := h2.tups tu
      have h4 := h4.tups tu
      have h5 := h5.tups tu
      refine goP rfl hc o h fun hh us d v6 H1 o q tu hc h6 h => ?_
      have h1 := h1.tups tu
      have h2 := h2.tups tu
      have h4 := h4.tups tu
      have h5 := h5.tups tu
      refine ⟨_, rfl, ?_⟩
      refine ⟨_, rfl, ?_⟩
      refine ⟨_, rfl, ?_⟩
      refine ⟨_, rfl, ?_⟩
      refine ⟨_, rfl, ?_⟩
      refine ⟨_, rfl, ?_⟩
      exact ⟨(by decide : 7 ≤ sizeLine), fun p hp => retT h o hc hp (.cons (rt_str t_select) (.cons (.bl dis) (.cons h1 (.cons h2 (.cons h4 (.cons h5 (.cons h6 .nil)))))))⟩
    · skip
      have h1 := h1.tups tu
      have h2 := h2.tups tu
      have h4 := h4.tups tu
      have h5 := h5.tups tu
      refine ⟨_, rfl, ?_⟩
      refine ⟨_, rfl, ?_⟩
      refine ⟨_, rfl, ?_⟩
      refine ⟨_, rfl, ?_⟩
      refine ⟨_, rfl, ?_⟩
      refine ⟨_, rfl, ?_⟩
      exact ⟨(by decide : 7 ≤ sizeLine), fun p hp => retT h o hc hp (.cons (rt_str t_select) (.cons (.bl dis) (.cons h1 (.cons h2 (.cons h4 (.cons h5 (.cons .non .nil)))))))⟩
  · skip
    have h1 := h1.tups tu
    have h2 := h2.tups tu
    refine goP rfl hc o h fun gg us d v5 H1 o q tu hc h5 h => ?_
    have h1 := h1.tups tu
    have h2 := h2.tups tu
    refine goB rfl hc o h (fun us d H1 o q tu hc h => iteT ?_) (fun us d H1 o q tu hc h => iteF ?_)
    · skip
      have h1 := h1.tups tu
      have h2 := h2.tups tu
      have h5 := h5.tups tu
      refine goP rfl hc o h fun hh us d v6 H1 o q tu hc h6 h => ?_
      have h1 := h1.tups tu
      have h2 := h2.tups tu
      have h5 := h5.tups tu
      refine ⟨_, rfl, ?_⟩
      refine ⟨_, rfl, ?_⟩
      refine ⟨_, rfl, ?_⟩
      refine ⟨_, rfl, ?_⟩
      refine ⟨_, rfl, ?_⟩
      refine ⟨_, rfl, ?_⟩
      exact ⟨(by decide : 7 ≤ sizeLine), fun p hp => retT h o hc hp (.cons (rt_str t_select) (.cons (.bl dis) (.cons h1 (.cons h2 (.cons .non (.cons h5 (.cons h6 .nil)))))))⟩
    · skip
      have h1 := h1.tups tu
      have h2 := h2.tups tu
      have h5 := h5.tups tu
      refine ⟨_, rfl, ?_⟩
      refine ⟨_, rfl, ?_⟩
      refine ⟨_, rfl, ?_⟩
      refine ⟨_, rfl, ?_⟩
      refine ⟨_, rfl, ?_⟩
      refine ⟨_, rfl, ?_⟩
      exact ⟨(by decide : 7 ≤ sizeLine), fun p hp => retT h o hc hp (.cons (rt_str t_select) (.cons (.bl dis) (.cons h1 (.cons h2 (.cons .non (.cons h5 (.cons .non .nil)))))))⟩
theorem sc_read_simple : FnScope ["cursor"] ["cursor"] (defScope sReadSimple) := ⟨rfl, rfl, rfl, by decide +kernel, rfl, by decide +kernel, by decide +kernel⟩
theorem ok_read_simple (F : Fun K "read_simple" "read_simple" sReadSimple f fd) (M : Cur P w K mg base CC CN) (D_read_enclosed : DnM P w K mg base (b + 1) "read_enclosed" (spC CC CN RtAt (rEnclosed R))) (D_read_select : DnM P w K mg base (b + 14) "read_select" (spC CC CN RtAt (rSelect R))) : FnM P w K mg base (b + 15) f (spC CC CN RtAt (rSimple R)) := by
  refine fnm_of F sc_read_simple (F.binds fun _ _ _ _ _ _ us hl => match us, hl with | [_], _ => rfl) (fun vs H Q E ⟨_, _, _, e, _⟩ => by rw [e]; rfl) (fun cdv A outer s H vs Q E hr h => ?_)
  obtain ⟨c, ws, d, rfl, hc, h⟩ := h
  have hx : Passes (L2.CX P w) (cxOf (L2.CX P w) P w K mg base ["cursor"] "read_simple" (defScope sReadSimple) f cdv A outer s H E) E := pass_up (takes_of rfl rfl rfl rfl)
  have o := OffA.refl H c
  refine ⟨_, (pss_cons (ps_if (pt_P (pe_cPass M hr.room hx (pv 0) t_select)) (pss_one (ps_ret (pe_rd D_read_select (hr.mono (by omega)) (by rfl) hx (pv 0)))) pss_nil)
      (pss_one (ps_ret (pe_rd D_read_enclosed (hr.mono (by omega)) (by rfl) hx (pv 0))))), ?_⟩
  refine goB rfl hc o h (fun us d H1 o q tu hc h => iteT ?_) (fun us d H1 o q tu hc h => iteF ?_)
  · skip
    exact goT rfl hc o h
  · skip
    exact goT rfl hc o h
theorem sc_read_intersects : FnScope ["cursor", "simple", "part", "is_all"] ["cursor", "simple"] (defScope sReadIntersects) := ⟨rfl, rfl, rfl, by decide +kernel, rfl, by decide +kernel, by decide +kernel⟩
theorem ok_read_intersects (F : Fun K "read_intersects" "read_intersects" sReadIntersects f fd) (M : Cur P w K mg base CC CN) (D_read_simple : DnM P w K mg base (b + 15) "read_simple" (spC CC CN RtAt (rSimple R))) : FnM P w K mg base (b + 16) f (spC1 CC CN RtAt (rInter R)) := by
  refine fnm_of F sc_read_intersects (F.binds fun _ _ _ _ _ _ us hl => match us, hl with | [_, _], _ => rfl) (fun vs H Q E ⟨_, _, _, _, _, e, _⟩ => by rw [e]; rfl) (fun cdv A outer s H vs Q E hr h => ?_)
  obtain ⟨c, v0, t0, ws, d, rfl, ht0, hc, h⟩ := h
  have hx : Passes (L2.CX P w) (cxOf (L2.CX P w) P w K mg base ["cursor", "simple", "part", "is_all"] "read_intersects" (defScope sReadIntersects) f cdv A outer s H E) E := pass_up (takes_of rfl rfl rfl rfl)
  have po : PassesOwn (model P w) (cxOf (L2.CX P w) P w K mg base ["cursor", "simple", "part", "is_all"] "read_intersects" (defScope sReadIntersects) f cdv A outer s H E).A (cxOf (L2.CX P w) P w K mg base ["cursor", "simple", "part", "is_all"] "read_intersects" (defScope sReadIntersects) f cdv A outer s H E).env (cxOf (L2.CX P w) P w K mg base ["cursor", "simple", "part", "is_all"] "read_intersects" (defScope sReadIntersects) f cdv A outer s H E).xe := passes_of rfl
  have o := OffA.refl H c
  refine ⟨_, (pss_cons (ps_set (i := 2) sc_read_intersects.nd rfl (Or.inl rfl) (pv 1))
      (pss_cons (ps_while po (pt_P (pe_cPass M hr.room hx (pv 0) t_intersect)) (pss_cons (ps_set (i := 3) sc_read_intersects.nd rfl (Or.inl rfl) (pe_cPass M hr.room hx (pv 0) t_all))
      (pss_one (ps_set (i := 2) sc_read_intersects.nd rfl (Or.inl rfl) (pe_tup (pa_cons pe_str (pa_cons (pv 3) (pa_cons (pv 2) (pa_cons (pe_rd D_read_simple (hr.mono (by omega)) (by rfl) hx (pv 0)) pa_nil)))))))))
      (pss_one (ps_ret (pv 2))))), ?_⟩
  have h := to_ret h
  refine ⟨_, rfl, whl_go (R := fun _ t σ H => ∃ v x, σ = [some (.ref c), some v0, some v, x] ∧ RtAt H v t) (fun z => by obtain ⟨_, _, e, _⟩ := z; rw [e]; rfl) (fun z hc _ o2 => let ⟨v, x, e, r⟩ := z; ⟨v, x, e, r.tups (o2.tups hc)⟩) (fun n t σ H1 us d D' _ o hc R h => ?_) hc o h ⟨_, _, rfl, ht0⟩ (fun n t us d σ H1 o hc R h => ?_)⟩
  · obtain ⟨v1, x, rfl, h1⟩ := R
    refine goP rfl hc o h fun b2 us d v2 H1 o q tu hc eb2 h => ?_
    have h1 := h1.tups tu
    obtain rfl : v2 = V.bl b2 := eb2
    refine ⟨_, rfl, ?_⟩
    refine ⟨_, rfl, ?_⟩
    refine goP rfl hc o h fun s us d v3 H1 o q tu hc h3 h => ?_
    have h1 := h1.tups tu
    exact ⟨(by decide : 4 ≤ sizeLine), fun p hp => ret_to h _ _ (o.new hp _) (hc.new hp _) ⟨_, _, rfl, mkT hp (.cons (rt_str t_intersect) (.cons (.bl b2) (.cons h1 (.cons h3 .nil))))⟩⟩
  · obtain ⟨v1, x, rfl, h1⟩ := R
    exact ⟨_, rfl, retV h o hc h1⟩
theorem sc_read_behind : FnScope ["cursor", "simple", "body", "word", "is_all", "keys", "n"] ["cursor", "simple"] (defScope sReadBehind) := ⟨rfl, rfl, rfl, by decide +kernel, rfl, by decide +kernel, by decide +kernel⟩
theorem ok_read_behind (F : Fun K "read_behind" "read_behind" sReadBehind f fd) (B : Blt mg) (M : Cur P w K mg base CC CN) (D_read_key : DnM P w K mg base (b + 1) "read_key" (spC CC CN RtAt rKey)) (D_read_intersects : DnM P w K mg base (b + 16) "read_intersects" (spC1 CC CN RtAt (rInter R))) (D_read_simple : DnM P w K mg base (b + 15) "read_simple" (spC CC CN RtAt (rSimple R))) : FnM P w K mg base (b + 17) f (spC1 CC CN RtAt (rBehind R)) := by
  refine fnm_of F sc_read_behind (F.binds fun _ _ _ _ _ _ us hl => match us, hl with | [_, _], _ => rfl) (fun vs H Q E ⟨_, _, _, _, _, e, _⟩ => by rw [e]; rfl) (fun cdv A outer s H vs Q E hr h => ?_)
  obtain ⟨c, v0, t0, ws, d, rfl, ht0, hc, h⟩ := h
  have hx : Passes (L2.CX P w) (cxOf (L2.CX P w) P w K mg base ["cursor", "simple", "body", "word", "is_all", "keys", "n"] "read_behind" (defScope sReadBehind) f cdv A outer s H E) E := pass_up (takes_of rfl rfl rfl rfl)
  have po : PassesOwn (model P w) (cxOf (L2.CX P w) P w K mg base ["cursor", "simple", "body", "word", "is_all", "keys", "n"] "read_behind" (defScope sReadBehind) f cdv A outer s H E).A (cxOf (L2.CX P w) P w K mg base ["cursor", "simple", "body", "word", "is_all", "keys", "n"] "read_behind" (defScope sReadBehind) f cdv A outer s H E).env (cxOf (L2.CX P w) P w K mg base ["cursor", "simple", "body", "word", "is_all", "keys", "n"] "read_behind" (defScope sReadBehind) f cdv A outer s H E).xe := passes_of rfl
  have o := OffA.refl H c
  refine ⟨_, (pss_cons (ps_set (i := 2) sc_read_behind.nd rfl (Or.inl rfl) (pe_rd1 D_read_intersects (hr.mono (by omega)) (by rfl) hx (pv 0) (pv 1)))
      (pss_cons (ps_while po (pt_P (pe_cSees2 M hr.room hx (pv 0) t_union t_except)) (pss_cons (ps_set (i := 3) sc_read_behind.nd rfl (Or.inl rfl) (pe_cStep M hr.room hx (pv 0)))
      (pss_cons (ps_set (i := 4) sc_read_behind.nd rfl (Or.inl rfl) (pe_cPass M hr.room hx (pv 0) t_all))
      (pss_one (ps_set (i := 2) sc_read_behind.nd rfl (Or.inl rfl) (pe_tup (pa_cons (pv 3) (pa_cons (pv 4) (pa_cons (pv 2) (pa_cons (pe_rd1 D_read_intersects (hr.mono (by omega)) (by rfl) hx (pv 0) (pe_rd D_read_simple (hr.mono (by omega)) (by rfl) hx (pv 0))) pa_nil))))))))))
      (pss_cons (ps_if (pt_not (pt_P (pe_cPass M hr.room hx (pv 0) t_order))) (pss_one (ps_ret (pv 2))) pss_nil)
      (pss_cons (ps_expr (pe_cExp M hr.room hx (pv 0) t_by))
      (pss_cons (ps_set (i := 5) sc_read_behind.nd rfl (Or.inl rfl) (pe_lst (pa_cons (pe_rd D_read_key (hr.mono (by omega)) (by rfl) hx (pv 0)) pa_nil)))
      (pss_cons (ps_while po (pt_P (pe_cPass M hr.room hx (pv 0) t_comma)) (pss_one (ps_expr (pe_bm PySem.F.plainAttrs_list PySem.F.slot_list_append PySem.F.type_list_append mt_append (pv 5) (pa_cons (pe_rd D_read_key (hr.mono (by omega)) (by rfl) hx (pv 0)) pa_nil)))))
      (pss_cons (ps_set (i := 6) sc_read_behind.nd rfl (Or.inl rfl) (pe_ifExp (pt_P (pe_cPass M hr.room hx (pv 0) t_first)) (pe_cTake .int M hr.room hx (pv 0) rfl (by rfl)) pe_non))
      (pss_one (ps_ret (pe_tup (pa_cons pe_str (pa_cons (pv 2) (pa_cons (pe_callTy cr_tupL (by rfl) B.tuple boot_tuple (pa_cons (pv 5) pa_nil)) (pa_cons (pv 6) pa_nil)))))))))))))), ?_⟩
  have hc0 := hc
  refine ⟨c, rfl, _, rfl, c, _, _, ws, d, rfl, ht0, hc, sp_go hc o h fun t us d v1 H1 o q hc h1 h => ?_⟩
  refine whl_go (R := fun _ t σ H => ∃ v x y z w2, σ = [some (.ref c), some v0, some v, x, y, z, w2] ∧ RtAt H v t) (fun z => by obtain ⟨_, _, _, _, _, e, _⟩ := z; rw [e]; rfl) (fun z hc _ o2 => let ⟨v, x, y, zz, w2, e, r⟩ := z; ⟨v, x, y, zz, w2, e, r.tups (o2.tups hc)⟩) (fun n t σ H1 us d D' _ o hc R h => ?_) hc o h ⟨_, _, _, _, _, rfl, h1⟩ (fun n t us d σ H1 o hc R h => ?_)
  · obtain ⟨v1, x, y, z, w2, rfl, h1⟩ := R
    refine goP rfl hc o h fun zz us d v2 H1 o q tu hc h2 h => ?_
    have h1 := h1.tups tu
    refine goP rfl hc o h fun b2 us d v3 H1 o q tu hc eb2 h => ?_
    have h1 := h1.tups tu
    have h2 := h2.tups tu
    obtain rfl : v3 = V.bl b2 := eb2
    refine ⟨_, rfl, ?_⟩
    refine ⟨_, rfl, ?_⟩
    refine ⟨_, rfl, ?_⟩
    refine ⟨c, rfl, goP rfl hc o h fun s us d v4 H1 o q tu hc h4 h => ⟨c, v4, s, us, d, rfl, h4, hc, sp_go hc o h fun t2 us d v5 H1 o q2 hc2 h5 h => ?_⟩⟩
    have h1 := (h1.tups tu).tups (q2.tups hc)
    have h2 := (h2.tups tu).tups (q2.tups hc)
    exact ⟨(by decide : 4 ≤ sizeLine), fun p hp => ret_to h _ _ (o.new hp _) (hc2.new hp _) ⟨_, _, _, _, _, rfl, mkT hp (.cons h2 (.cons (.bl b2) (.cons h1 (.cons h5 .nil))))⟩⟩
  obtain ⟨vb, x, y, z, w2, rfl, h1⟩ := R
  refine goB rfl hc o h (fun us d H1 o q tu hc h => iteF ?_) (fun us d H1 o q tu hc h => iteT ?_)
  · have h1 := h1.tups tu
    refine goP rfl hc o h fun _ us d _ H1 o q tu hc _ h => ?_
    have h1 := h1.tups tu
    refine goP rfl hc o h fun t1 us d v1 H1 o q tu hc hk h => ?_
    have h1 := h1.tups tu
    refine ⟨(by decide : 1 ≤ sizeLine), fun L hL => ?_⟩
    obtain ⟨hL0, neL⟩ := off_new o hc hL
    have tu : Tups H1 (L2.upd H1 L (.lst [v1])) := Tups.of_same (same_new hL _)
    have o := o.new hL (.lst [v1])
    have hc := hc.new hL (.lst [v1])
    have hk := hk.tups tu
    have h1 := h1.tups tu
    refine lst_loop (i := 5) (fun H => RtAt H vb t) (fun z tu => z.tups tu) hc0 rfl rfl hL0 neL hc o h upd_same (.cons hk .nil) (Nat.le_refl 1) h1 (fun ts us d H1 vs o hc hl hts n1 n2 h1 h => ?_)
    refine goB rfl hc o h (fun us d H1 o q tu hc h => iteT ?_) (fun us d H1 o q tu hc h => iteF ?_)
    · skip
      have h1 := h1.tups tu
      have hl := q _ _ hl neL
      have hts := hts.tups tu
      refine goP rfl hc o h fun nn us d v6 H1 o q tu hc h6 h => ?_
      have h1 := h1.tups tu
      have hl := q _ _ hl neL
      have hts := hts.tups tu
      refine ⟨_, rfl, ?_⟩
      refine ⟨_, rfl, L, vs, rfl, SqL.of hl, fun p2 hp2 => ?_⟩
      have tu2 := Tups.of_same (same_new hp2 (.tup vs))
      refine ⟨_, rfl, ?_⟩
      exact ⟨(by decide : 4 ≤ sizeLine), fun p hp => retT h (o.new hp2 _) (hc.new hp2 _) hp (.cons (rt_str t_first) (.cons (h1.tups tu2) (.cons (mkT hp2 hts) (.cons (h6.tups tu2) .nil))))⟩
    · skip
      have h1 := h1.tups tu
      have hl := q _ _ hl neL
      have hts := hts.tups tu
      refine ⟨_, rfl, ?_⟩
      refine ⟨_, rfl, L, vs, rfl, SqL.of hl, fun p2 hp2 => ?_⟩
      have tu2 := Tups.of_same (same_new hp2 (.tup vs))
      refine ⟨_, rfl, ?_⟩
      exact ⟨(by decide : 4 ≤ sizeLine), fun p hp => retT h (o.new hp2 _) (hc.new hp2 _) hp (.cons (rt_str t_first) (.cons (h1.tups tu2) (.cons (mkT hp2 hts) (.cons .non .nil))))⟩
  · have h1 := h1.tups tu
    exact ⟨_, rfl, retV h o hc h1⟩
theorem sc_read_whole : FnScope ["cursor"] ["cursor"] (defScope sReadWhole) := ⟨rfl, rfl, rfl, by decide +kernel, rfl, by decide +kernel, by decide +kernel⟩
theorem ok_read_whole (F : Fun K "read_whole" "read_whole" sReadWhole f fd) (M : Cur P w K mg base CC CN) (D_read_behind : DnM P w K mg base (b + 17) "read_behind" (spC1 CC CN RtAt (rBehind R))) (D_read_simple : DnM P w K mg base (b + 15) "read_simple" (spC CC CN RtAt (rSimple R))) : FnM P w K mg base (b + 18) f (spC CC CN RtAt (rWhole R)) := by
  refine fnm_of F sc_read_whole (F.binds fun _ _ _ _ _ _ us hl => match us, hl with | [_], _ => rfl) (fun vs H Q E ⟨_, _, _, e, _⟩ => by rw [e]; rfl) (fun cdv A outer s H vs Q E hr h => ?_)
  obtain ⟨c, ws, d, rfl, hc, h⟩ := h
  have hx : Passes (L2.CX P w) (cxOf (L2.CX P w) P w K mg base ["cursor"] "read_whole" (defScope sReadWhole) f cdv A outer s H E) E := pass_up (takes_of rfl rfl rfl rfl)
  have o := OffA.refl H c
  refine ⟨_, (pss_one (ps_ret (pe_rd1 D_read_behind (hr.mono (by omega)) (by rfl) hx (pv 0) (pe_rd D_read_simple (hr.mono (by omega)) (by rfl) hx (pv 0))))), ?_⟩
  exact ⟨c, rfl, goP rfl hc o h fun s us d v1 H1 o q tu hc h1 h => ⟨c, v1, s, us, d, rfl, h1, hc, sp_tail o h⟩⟩
theorem sc_read_behind_opened : FnScope ["cursor", "is_question", "tree", "single"] ["cursor"] (defScope sReadBehindOpened) := ⟨rfl, rfl, rfl, by decide +kernel, rfl, by decide +kernel, by decide +kernel⟩
theorem ok_read_behind_opened (F : Fun K "read_behind_opened" "read_behind_opened" sReadBehindOpened f fd) (M : Cur P w K mg base CC CN) (D_read_joins : DnM P w K mg base (b + 12) "read_joins" (spC1 CC CN RtAt (rJoins R))) (D_read_aliased : DnM P w K mg base (b + 1) "read_aliased" (spC1 CC CN RtAt rAliased)) (D_read_behind : DnM P w K mg base (b + 17) "read_behind" (spC1 CC CN RtAt (rBehind R))) (D_read_opened : DnM P w K mg base b "read_opened" (spC CC CN isO R.O)) : FnM P w K mg base (b + 18) f (spC CC CN isO (rBehindOpened R)) := by
  refine fnm_of F sc_read_behind_opened (F.binds fun _ _ _ _ _ _ us hl => match us, hl with | [_], _ => rfl) (fun vs H Q E ⟨_, _, _, e, _⟩ => by rw [e]; rfl) (fun cdv A outer s H vs Q E hr h => ?_)
  obtain ⟨c, ws, d, rfl, hc, h⟩ := h
  have hx : Passes (L2.CX P w) (cxOf (L2.CX P w) P w K mg base ["cursor", "is_question", "tree", "single"] "read_behind_opened" (defScope sReadBehindOpened) f cdv A outer s H E) E := pass_up (takes_of rfl rfl rfl rfl)
  have o := OffA.refl H c
  refine ⟨_, (pss_cons (ps_asg (pe_rd D_read_opened (hr.mono (by omega)) (by rfl) hx (pv 0)) (pg_tup rfl (pgs_cons (pg_name (i := 1) sc_read_behind_opened.nd rfl (Or.inl rfl)) (pgs_cons (pg_name (i := 2) sc_read_behind_opened.nd rfl (Or.inl rfl)) pgs_nil))))
      (pss_cons (ps_if (pw_and (pt_val (pv 1)) (pw_and1 (pt_not (pt_P (pe_cSees1 M hr.room hx (pv 0) t_as))))).pt (pss_one (ps_ret (pe_tup (pa_cons pe_bl (pa_cons (pe_rd1 D_read_behind (hr.mono (by omega)) (by rfl) hx (pv 0) (pv 2)) pa_nil))))) pss_nil)
      (pss_cons (ps_set (i := 3) sc_read_behind_opened.nd rfl (Or.inl rfl) (pe_ifExp (pt_val (pv 1)) (pe_rd1 D_read_aliased (hr.mono (by omega)) (by rfl) hx (pv 0) (pv 2)) (pv 2)))
      (pss_one (ps_ret (pe_tup (pa_cons pe_bl (pa_cons (pe_rd1 D_read_joins (hr.mono (by omega)) (by rfl) hx (pv 0) (pv 3)) pa_nil)))))))), ?_⟩
  refine goP rfl hc o h fun x us d v1 H1 o q tu hc h1 h => ?_
  obtain ⟨qb, tt⟩ := x
  have h1 : RtAt H1 v1 (.tup [.bl qb, tt]) := h1
  cases h1 with
  | tup hp rr =>
  cases rr with
  | cons ha rr =>
  cases rr with
  | cons hb rr =>
  cases rr
  cases ha
  refine ⟨_, _, rfl, SqT.of hp, rfl, _, _, rfl, _, _, rfl, rfl, ?_⟩
  cases qb with
  | true =>
    refine ⟨_, rfl, _, rfl, iteT ?_⟩
    refine goB rfl hc o h (fun us d H1 o q tu hc h => iteF ?_) (fun us d H1 o q tu hc h => iteT ?_)
    · have hb := hb.tups tu
      refine ⟨_, rfl, _, rfl, iteT ?_⟩
      refine ⟨c, rfl, _, rfl, c, _, _, us, d, rfl, hb, hc, sp_go hc o h fun t2 us d v2 H1 o q hc h2 h => ?_⟩
      refine ⟨c, rfl, _, rfl, c, _, _, us, d, rfl, h2, hc, sp_go hc o h fun t2 us d v2 H1 o q hc h2 h => ?_⟩
      exact ⟨(by decide : 2 ≤ sizeLine), fun p hp => (ret_to h) _ _ (o.new hp _) (hc.new hp _) (mkT hp (.cons (.bl false) (.cons h2 .nil)))⟩
    · have hb := hb.tups tu
      refine ⟨c, rfl, _, rfl, c, _, _, us, d, rfl, hb, hc, sp_go hc o h fun t2 us d v2 H1 o q hc h2 h => ?_⟩
      exact ⟨(by decide : 2 ≤ sizeLine), fun p hp => (ret_to h) _ _ (o.new hp _) (hc.new hp _) (mkT hp (.cons (.bl true) (.cons h2 .nil)))⟩
  | false =>
    refine ⟨_, rfl, _, rfl, iteF (iteF ?_)⟩
    refine ⟨_, rfl, _, rfl, iteF ⟨_, rfl, ?_⟩⟩
    refine ⟨c, rfl, _, rfl, c, _, _, us, d, rfl, hb, hc, sp_go hc o h fun t2 us d v2 H1 o q hc h2 h => ?_⟩
    exact ⟨(by decide : 2 ≤ sizeLine), fun p hp => (ret_to h) _ _ (o.new hp _) (hc.new hp _) (mkT hp (.cons (.bl false) (.cons h2 .nil)))⟩
theorem sc_read_opened : FnScope ["cursor", "found"] ["cursor"] (defScope sReadOpened) := ⟨rfl, rfl, rfl, by decide +kernel, rfl, by decide +kernel, by decide +kernel⟩
theorem ok_read_opened (F : Fun K "read_opened" "read_opened" sReadOpened f fd) (M : Cur P w K mg base CC CN) (D_read_whole : DnM P w K mg base (b + 18) "read_whole" (spC CC CN RtAt (rWhole R))) (D_read_behind_opened : DnM P w K mg base (b + 18) "read_behind_opened" (spC CC CN isO (rBehindOpened R))) (D_read_joins : DnM P w K mg base (b + 12) "read_joins" (spC1 CC CN RtAt (rJoins R))) (D_read_single : DnM P w K mg base (b + 2) "read_single" (spC CC CN RtAt (rSingle R))) : FnM P w K mg base (b + 19) f (spC CC CN isO (rOpened R)) := by
  refine fnm_of F sc_read_opened (F.binds fun _ _ _ _ _ _ us hl => match us, hl with | [_], _ => rfl) (fun vs H Q E ⟨_, _, _, e, _⟩ => by rw [e]; rfl) (fun cdv A outer s H vs Q E hr h => ?_)
  obtain ⟨c, ws, d, rfl, hc, h⟩ := h
  have hx : Passes (L2.CX P w) (cxOf (L2.CX P w) P w K mg base ["cursor", "found"] "read_opened" (defScope sReadOpened) f cdv A outer s H E) E := pass_up (takes_of rfl rfl rfl rfl)
  have o := OffA.refl H c
  refine ⟨_, (pss_cons (ps_expr (pe_cExp M hr.room hx (pv 0) t_op))
      (pss_cons (ps_if (pt_P (pe_cSees1 M hr.room hx (pv 0) t_select)) (pss_one (ps_set (i := 1) sc_read_opened.nd rfl (Or.inl rfl) (pe_tup (pa_cons pe_bl (pa_cons (pe_rd D_read_whole (hr.mono (by omega)) (by rfl) hx (pv 0)) pa_nil))))) (pss_one (ps_if (pt_P (pe_cSees1 M hr.room hx (pv 0) t_op)) (pss_one (ps_set (i := 1) sc_read_opened.nd rfl (Or.inl rfl) (pe_rd D_read_behind_opened (hr.mono (by omega)) (by rfl) hx (pv 0)))) (pss_one (ps_set (i := 1) sc_read_opened.nd rfl (Or.inl rfl) (pe_tup (pa_cons pe_bl (pa_cons (pe_rd1 D_read_joins (hr.mono (by omega)) (by rfl) hx (pv 0) (pe_rd D_read_single (hr.mono (by omega)) (by rfl) hx (pv 0))) pa_nil))))))))
      (pss_cons (ps_expr (pe_cExp M hr.room hx (pv 0) t_cl))
      (pss_one (ps_ret (pv 1)))))), ?_⟩
  refine goP rfl hc o h fun _ us d _ H1 o q tu hc _ h => ?_
  refine goB rfl hc o h (fun us d H1 o q tu hc h => iteT ?_) (fun us d H1 o q tu hc h => iteF ?_)
  · skip
    refine goP rfl hc o h fun t us d v1 H1 o q tu hc h1 h => ?_
    refine ⟨(by decide : 2 ≤ sizeLine), fun p hp => ?_⟩
    have hf := mkT hp (.cons (.bl true) (.cons h1 .nil))
    have o := o.new hp (.tup [.bl true, v1])
    have hc := hc.new hp (.tup [.bl true, v1])
    refine goP rfl hc o h fun _ us d _ H1 o q tu hc _ h => ?_
    have hf := hf.tups tu
    exact ⟨_, rfl, (ret_to h) _ _ o hc hf⟩
  · skip
    refine goB rfl hc o h (fun us d H1 o q tu hc h => iteT ?_) (fun us d H1 o q tu hc h => iteF ?_)
    · skip
      refine goP rfl hc o h fun x us d v1 H1 o q tu hc h1 h => ?_
      have hf : RtAt H1 v1 (.tup [.bl x.1, x.2]) := h1
      refine goP rfl hc o h fun _ us d _ H1 o q tu hc _ h => ?_
      have hf := hf.tups tu
      exact ⟨_, rfl, (ret_to h) _ _ o hc hf⟩
    · skip
      refine ⟨c, rfl, goP rfl hc o h fun s us d v1 H1 o q tu hc h1 h => ⟨c, v1, s, us, d, rfl, h1, hc, sp_go hc o h fun t2 us d v2 H1 o q hc h2 h => ?_⟩⟩
      refine ⟨(by decide : 2 ≤ sizeLine), fun p hp => ?_⟩
      have hf := mkT hp (.cons (.bl false) (.cons h2 .nil))
      have o := o.new hp (.tup [.bl false, v2])
      have hc := hc.new hp (.tup [.bl false, v2])
      refine goP rfl hc o h fun _ us d _ H1 o q tu hc _ h => ?_
      have hf := hf.tups tu
      exact ⟨_, rfl, (ret_to h) _ _ o hc hf⟩
end
end Ask
namespace Ask
open PySem L2 PySem.Spec PyProof.Rows PySem.AskX LamX NdefX
structure FnAt (K : PySem.W.Frag) (mg : Str → Option Value) (x : Str) (st : Stmt) : Prop where
  ex : ∃ (f : Addr) (fd : FuncData), Fun K x x st f fd ∧ mg x = some (.ref f) ∧ PySem.W.keepIn K (.ref f) = true
structure RdAll (K : PySem.W.Frag) (mg : Str → Option Value) : Prop where
  read_key : FnAt K mg "read_key" sReadKey
  read_column : FnAt K mg "read_column" sReadColumn
  read_join_kind : FnAt K mg "read_join_kind" sReadJoinKind
  read_aliased : FnAt K mg "read_aliased" sReadAliased
  read_enclosed : FnAt K mg "read_enclosed" sReadEnclosed
  read_parenthesized : FnAt K mg "read_parenthesized" sReadParenthesized
  read_choice : FnAt K mg "read_choice" sReadChoice
  read_count : FnAt K mg "read_count" sReadCount
  read_groups : FnAt K mg "read_groups" sReadGroups
  read_case : FnAt K mg "read_case" sReadCase
  read_coalesce : FnAt K mg "read_coalesce" sReadCoalesce
  read_items : FnAt K mg "read_items" sReadItems
  read_both : FnAt K mg "read_both" sReadBoth
  read_e : FnAt K mg "read_e" sReadE
  read_bare_factor : FnAt K mg "read_bare_factor" sReadBareFactor
  read_factor : FnAt K mg "read_factor" sReadFactor
  read_product : FnAt K mg "read_product" sReadProduct
  read_sum : FnAt K mg "read_sum" sReadSum
  read_is : FnAt K mg "read_is" sReadIs
  read_comparison : FnAt K mg "read_comparison" sReadComparison
  read_test : FnAt K mg "read_test" sReadTest
  read_no : FnAt K mg "read_no" sReadNo
  read_single : FnAt K mg "read_single" sReadSingle
  read_joins : FnAt K mg "read_joins" sReadJoins
  read_sources : FnAt K mg "read_sources" sReadSources
  read_item : FnAt K mg "read_item" sReadItem
  read_select : FnAt K mg "read_select" sReadSelect
  read_simple : FnAt K mg "read_simple" sReadSimple
  read_intersects : FnAt K mg "read_intersects" sReadIntersects
  read_behind : FnAt K mg "read_behind" sReadBehind
  read_whole : FnAt K mg "read_whole" sReadWhole
  read_behind_opened : FnAt K mg "read_behind_opened" sReadBehindOpened
  read_opened : FnAt K mg "read_opened" sReadOpened
section
variable {P : Program} {w : World} {K : PySem.W.Frag} {mg : Str → Option Value} {base : Heap} {CC CN : Addr}
theorem dnm_of {k : Nat} {x : Str} {st : Stmt} {sp : Sp} (h : FnAt K mg x st) (ok : ∀ (f : Addr) (fd : FuncData), Fun K x x st f fd → FnM P w K mg base k f sp) : DnM P w K mg base k x sp := let ⟨f, fd, F, e, kp⟩ := h.ex; ⟨f, e, kp, ok f fd F⟩
theorem DnM.mono {j k : Nat} {x : Str} {sp : Sp} (D : DnM P w K mg base j x sp) (h : j ≤ k) : DnM P w K mg base k x sp := let ⟨f, e, kp, F⟩ := D.ex; ⟨f, e, kp, F.mono h⟩
structure RdN (P : Program) (w : World) (K : PySem.W.Frag) (mg : Str → Option Value) (base : Heap) (CC CN : Addr) (n : Nat) : Prop where
  W : DnM P w K mg base (19 * n) "read_whole" (spC CC CN RtAt (rd n).W)
  E : DnM P w K mg base (19 * n) "read_e" (spC CC CN RtAt (rd n).E)
  O : DnM P w K mg base (19 * n) "read_opened" (spC CC CN isO (rd n).O)
theorem rdn_zero (R : RdAll K mg) : RdN P w K mg base CC CN 0 :=
  ⟨dnm_of R.read_whole fun f fd _ => FnM.never.weak fun vs H Q E ⟨_, _, _, _, _, h⟩ => h, dnm_of R.read_e fun f fd _ => FnM.never.weak fun vs H Q E ⟨_, _, _, _, _, h⟩ => h, dnm_of R.read_opened fun f fd _ => FnM.never.weak fun vs H Q E ⟨_, _, _, _, _, h⟩ => h⟩
theorem rdn_succ {n : Nat} (R : RdAll K mg) (M : Cur P w K mg base CC CN) (B : Blt mg) {ca : Addr} (hca : mg "COMPARISONS" = some (.ref ca)) (hcT : ∀ H, SqT K H ca (cmpW.map fun z => V.str (So z))) (N : RdN P w K mg base CC CN n) : RdN P w K mg base CC CN (n + 1) := by
  have D_read_key : DnM P w K mg base (19 * n + 1) "read_key" (spC CC CN RtAt rKey) := dnm_of R.read_key fun f fd F => ok_read_key F M
  have D_read_column : DnM P w K mg base (19 * n + 1) "read_column" (spC CC CN RtAt rColumn) := dnm_of R.read_column fun f fd F => ok_read_column F M
  have D_read_join_kind : DnM P w K mg base (19 * n + 1) "read_join_kind" (spC CC CN RtAt rKind) := dnm_of R.read_join_kind fun f fd F => ok_read_join_kind F M
  have D_read_aliased : DnM P w K mg base (19 * n + 1) "read_aliased" (spC1 CC CN RtAt rAliased) := dnm_of R.read_aliased fun f fd F => ok_read_aliased F M
  have D_read_enclosed : DnM P w K mg base (19 * n + 1) "read_enclosed" (spC CC CN RtAt (rEnclosed (rd n))) := dnm_of R.read_enclosed fun f fd F => ok_read_enclosed F M N.W
  have D_read_parenthesized : DnM P w K mg base (19 * n + 1) "read_parenthesized" (spC CC CN RtAt (rParen (rd n))) := dnm_of R.read_parenthesized fun f fd F => ok_read_parenthesized F M N.E
  have D_read_choice : DnM P w K mg base (19 * n + 1) "read_choice" (spC CC CN RtAt (rChoice (rd n))) := dnm_of R.read_choice fun f fd F => ok_read_choice F M N.E
  have D_read_count : DnM P w K mg base (19 * n + 1) "read_count" (spC CC CN RtAt (rCount (rd n))) := dnm_of R.read_count fun f fd F => ok_read_count F M N.E
  have D_read_groups : DnM P w K mg base (19 * n + 2) "read_groups" (spC CC CN RtAt rGroups) := dnm_of R.read_groups fun f fd F => ok_read_groups F B M D_read_column
  have D_read_case : DnM P w K mg base (19 * n + 2) "read_case" (spC CC CN RtAt (rCase (rd n))) := dnm_of R.read_case fun f fd F => ok_read_case F B M N.E D_read_choice
  have D_read_coalesce : DnM P w K mg base (19 * n + 1) "read_coalesce" (spC CC CN RtAt (rCoalesce (rd n))) := dnm_of R.read_coalesce fun f fd F => ok_read_coalesce F B M N.E
  have D_read_bare_factor : DnM P w K mg base (19 * n + 3) "read_bare_factor" (spC CC CN RtAt (rBare (rd n))) := dnm_of R.read_bare_factor fun f fd F => ok_read_bare_factor F M D_read_parenthesized D_read_column D_read_count D_read_coalesce D_read_case D_read_enclosed
  have D_read_factor : DnM P w K mg base (19 * n + 4) "read_factor" (spC CC CN RtAt (rFactor (rd n))) := dnm_of R.read_factor fun f fd F => ok_read_factor F B M D_read_bare_factor
  have D_read_product : DnM P w K mg base (19 * n + 5) "read_product" (spC CC CN RtAt (rProduct (rd n))) := dnm_of R.read_product fun f fd F => ok_read_product F M D_read_factor
  have D_read_sum : DnM P w K mg base (19 * n + 6) "read_sum" (spC CC CN RtAt (rSum (rd n))) := dnm_of R.read_sum fun f fd F => ok_read_sum F M D_read_product
  have D_read_is : DnM P w K mg base (19 * n + 7) "read_is" (spC1 CC CN RtAt (rIs (rd n))) := dnm_of R.read_is fun f fd F => ok_read_is F M D_read_sum
  have D_read_comparison : DnM P w K mg base (19 * n + 7) "read_comparison" (spC1 CC CN RtAt (rComparison (rd n))) := dnm_of R.read_comparison fun f fd F => ok_read_comparison F M D_read_sum D_read_enclosed
  have D_read_test : DnM P w K mg base (19 * n + 8) "read_test" (spC CC CN RtAt (rTest (rd n))) := dnm_of R.read_test fun f fd F => ok_read_test F M hca hcT D_read_enclosed D_read_is D_read_comparison D_read_sum
  have D_read_no : DnM P w K mg base (19 * n + 9) "read_no" (spC CC CN RtAt (rNo (rd n))) := dnm_of R.read_no fun f fd F => ok_read_no F B M D_read_test
  have D_read_both : DnM P w K mg base (19 * n + 10) "read_both" (spC CC CN RtAt (rBoth (rd n))) := dnm_of R.read_both fun f fd F => ok_read_both F B M D_read_no
  have D_read_e : DnM P w K mg base (19 * n + 11) "read_e" (spC CC CN RtAt (rE (rd n))) := dnm_of R.read_e fun f fd F => ok_read_e F B M D_read_both
  have D_read_single : DnM P w K mg base (19 * n + 2) "read_single" (spC CC CN RtAt (rSingle (rd n))) := dnm_of R.read_single fun f fd F => ok_read_single F M D_read_aliased N.O
  have D_read_joins : DnM P w K mg base (19 * n + 12) "read_joins" (spC1 CC CN RtAt (rJoins (rd n))) := dnm_of R.read_joins fun f fd F => ok_read_joins F M D_read_e D_read_single D_read_join_kind
  have D_read_sources : DnM P w K mg base (19 * n + 13) "read_sources" (spC CC CN RtAt (rSources (rd n))) := dnm_of R.read_sources fun f fd F => ok_read_sources F M D_read_joins D_read_single
  have D_read_item : DnM P w K mg base (19 * n + 12) "read_item" (spC CC CN RtAt (rItem (rd n))) := dnm_of R.read_item fun f fd F => ok_read_item F M D_read_e
  have D_read_items : DnM P w K mg base (19 * n + 13) "read_items" (spC CC CN RtAt (rItems (rd n))) := dnm_of R.read_items fun f fd F => ok_read_items F B M D_read_item
  have D_read_select : DnM P w K mg base (19 * n + 14) "read_select" (spC CC CN RtAt (rSelect (rd n))) := dnm_of R.read_select fun f fd F => ok_read_select F M D_read_e D_read_groups D_read_sources D_read_items
  have D_read_simple : DnM P w K mg base (19 * n + 15) "read_simple" (spC CC CN RtAt (rSimple (rd n))) := dnm_of R.read_simple fun f fd F => ok_read_simple F M D_read_enclosed D_read_select
  have D_read_intersects : DnM P w K mg base (19 * n + 16) "read_intersects" (spC1 CC CN RtAt (rInter (rd n))) := dnm_of R.read_intersects fun f fd F => ok_read_intersects F M D_read_simple
  have D_read_behind : DnM P w K mg base (19 * n + 17) "read_behind" (spC1 CC CN RtAt (rBehind (rd n))) := dnm_of R.read_behind fun f fd F => ok_read_behind F B M D_read_key D_read_intersects D_read_simple
  have D_read_whole : DnM P w K mg base (19 * n + 18) "read_whole" (spC CC CN RtAt (rWhole (rd n))) := dnm_of R.read_whole fun f fd F => ok_read_whole F M D_read_behind D_read_simple
  have D_read_behind_opened : DnM P w K mg base (19 * n + 18) "read_behind_opened" (spC CC CN isO (rBehindOpened (rd n))) := dnm_of R.read_behind_opened fun f fd F => ok_read_behind_opened F M D_read_joins D_read_aliased D_read_behind N.O
  have D_read_opened : DnM P w K mg base (19 * n + 19) "read_opened" (spC CC CN isO (rOpened (rd n))) := dnm_of R.read_opened fun f fd F => ok_read_opened F M D_read_whole D_read_behind_opened D_read_joins D_read_single
  exact ⟨D_read_whole.mono (by omega), D_read_e.mono (by omega), D_read_opened.mono (by omega)⟩
theorem rdn_all (R : RdAll K mg) (M : Cur P w K mg base CC CN) (B : Blt mg) {ca : Addr} (hca : mg "COMPARISONS" = some (.ref ca)) (hcT : ∀ H, SqT K H ca (cmpW.map fun z => V.str (So z))) : ∀ n, RdN P w K mg base CC CN n
  | 0 => rdn_zero R
  | n + 1 => rdn_succ R M B hca hcT (rdn_all R M B hca hcT n)
end
end Ask
namespace Ask
open PySem L2 PySem.Spec PyProof.Rows PySem.AskX LamX NdefX

/-! ### texts as lists of code points -/
def runC (c : Nat) : Bool := (decide (97 ≤ c) && decide (c ≤ 122)) || (decide (48 ≤ c) && decide (c ≤ 57))
def digC (c : Nat) : Bool := decide (48 ≤ c) && decide (c ≤ 57)
def endR (cs : List Nat) (i : Nat) : Nat := i + ((cs.drop i).takeWhile runC).length
theorem So_len (l : List Nat) : (So l).length = l.length := rfl
theorem line10 {n : Nat} (h : n ≤ 10000) : n ≤ sizeLine := Nat.le_trans h (by decide)
theorem slice_both (a : List Nat) {i j : Nat} (h : i ≤ j) (hi : i ≤ a.length) : Txt.slice (So a) (some (i : Int)) (some (j : Int)) = So ((a.drop i).take (j - i)) := by
  by_cases hj : j ≤ a.length
  · have e := beq_iff_eq.mp (PyProof.Rows.slice_closes (x := So a) (i := (i : Int)) (j := (j : Int)) ⟨by omega, by omega, by simpa using hj⟩)
    rw [e]
    show So ((a.drop (i : Int).toNat).take ((j : Int) - i).toNat) = _
    rw [Int.toNat_natCast, show ((j : Int) - i).toNat = j - i by omega]
  · have e2 : Txt.slice (So a) (some (i : Int)) (some (j : Int)) = Txt.slice (So a) (some (i : Int)) (some (a.length : Int)) := by
      unfold Txt.slice
      rw [So_len, SX.idx_hi (by omega)]
    have e := beq_iff_eq.mp (PyProof.Rows.slice_closes (x := So a) (i := (i : Int)) (j := (a.length : Int)) ⟨by omega, by omega, by simp⟩)
    rw [e2, e]
    show So ((a.drop (i : Int).toNat).take ((a.length : Int) - i).toNat) = _
    rw [Int.toNat_natCast, show ((a.length : Int) - i).toNat = a.length - i by omega, List.take_of_length_le (by rw [List.length_drop]; omega), List.take_of_length_le (by rw [List.length_drop]; omega)]
/-- a def that gives a value and changes nothing -/
def spPu (R : List V → V → Prop) : Sp := fun vs H Q _ => ∃ v, R vs v ∧ ∀ H', Same H H' → Q v H'
def cps (l : List Nat) : Str := So l
theorem sing_eq (c : Nat) : (⟨#[c]⟩ : Str) = So [c] := rfl
theorem cp_0 : ("0" : Str).cps.toList = [48] := by decide +kernel
theorem cp_9 : ("9" : Str).cps.toList = [57] := by decide +kernel
section
variable {P : Program} {w : World} {K : PySem.W.Frag} {mg : Str → Option Value} {base : Heap} {f : Addr} {fd : FuncData}
/-! ### is_run_part, end_of_run -/
theorem sc_isrun : FnScope ["character"] ["character"] (defScope sIsRunPart) := ⟨rfl, rfl, rfl, by decide +kernel, rfl, by decide +kernel, by decide +kernel⟩
theorem ok_isrun (F : Fun K "is_run_part" "is_run_part" sIsRunPart f fd) : FnOk P w K mg base CX0 1 f fd ["character"] (spPu fun vs v => ∃ c, vs = [.str (So [c])] ∧ v = .bl (runC c)) := by
  refine F.ok sc_isrun (fun vs H Q E ⟨_, ⟨_, e, _⟩, _⟩ => by rw [e]; rfl) (fun cdv A outer s H vs Q E hr h => ?_)
  obtain ⟨v, ⟨c, rfl, rfl⟩, q⟩ := h
  refine ⟨_, pss_one (ps_ret (pe_or (pe_chain op_le_str op_le_str pe_str (pv 0) pe_str) (pe_one (pe_chain op_le_str op_le_str pe_str (pv 0) pe_str)))), ?_⟩
  have q := q H (.refl H)
  refine ⟨_, rfl, _, _, rfl, rfl, ?_⟩
  have tail : ∀ (b : Bool), runC c = (b || (decide (48 ≤ c) && decide (c ≤ 57))) → ∃ c_1, (V.bl b) = V.bl c_1 ∧ if c_1 = true then Q (V.bl true) H else tChain (fun x y H Q => ∃ i j, x = V.str i ∧ y = V.str j ∧ Q (V.bl !decide (j.cps.toList < i.cps.toList)) H) (fun x y H Q => ∃ i j, x = V.str i ∧ y = V.str j ∧ Q (V.bl !decide (j.cps.toList < i.cps.toList)) H) (tC (V.str "0")) (tVar 0) (tC (V.str "9")) (L2.start ["character"] [V.str (So [c])]) H Q := by
    intro b e
    refine ⟨b, rfl, ?_⟩
    cases b with
    | true => rw [e] at q; exact iteT q
    | false =>
      rw [Bool.false_or] at e
      refine iteF ⟨_, rfl, _, _, rfl, rfl, ?_⟩
      have e1 : (!decide ((So [c]).cps.toList < ("0" : Str).cps.toList)) = decide (48 ≤ c) := low_at cp_0 c
      rw [e1]
      refine ⟨_, rfl, ?_⟩
      refine ite2 (fun g => ?_) (fun g => ?_)
      · refine ⟨_, _, rfl, rfl, ?_⟩
        have e2 : (!decide (("9" : Str).cps.toList < (So [c]).cps.toList)) = decide (c ≤ 57) := high_at cp_9 c
        rw [e2]
        rw [e, g, Bool.true_and] at q
        exact q
      · rw [e, Bool.eq_false_iff.mpr g, Bool.false_and] at q
        exact q
  have e1 : (!decide ((So [c]).cps.toList < ("a" : Str).cps.toList)) = decide (97 ≤ c) := low_at cp_a c
  rw [e1]
  refine ⟨_, rfl, ?_⟩
  refine ite2 (fun g => ?_) (fun g => ?_)
  · refine ⟨_, _, rfl, rfl, ?_⟩
    have e2 : (!decide (("z" : Str).cps.toList < (So [c]).cps.toList)) = decide (c ≤ 122) := high_at cp_z c
    rw [e2]
    exact tail _ (by unfold runC; rw [g, Bool.true_and])
  · exact tail false (by unfold runC; rw [Bool.eq_false_iff.mpr g, Bool.false_and])
theorem sc_endrun : FnScope ["text", "place"] ["text", "place"] (defScope sEndOfRun) := ⟨rfl, rfl, rfl, by decide +kernel, rfl, by decide +kernel, by decide +kernel⟩
theorem endR_end {cs : List Nat} {i : Nat} (h : cs.length ≤ i) : endR cs i = i := by
  unfold endR
  rw [List.drop_eq_nil_of_le h]
  rfl
theorem endR_no {cs : List Nat} {i c : Nat} (h : cs[i]? = some c) (r : runC c = false) : endR cs i = i := by
  unfold endR
  rw [List.drop_eq_getElem?_toList_append, h]
  show i + (List.takeWhile runC (c :: cs.drop (i + 1))).length = i
  rw [List.takeWhile_cons, r]
  rfl
theorem endR_go {cs : List Nat} {i c : Nat} (h : cs[i]? = some c) (r : runC c = true) : endR cs i = endR cs (i + 1) := by
  unfold endR
  rw [List.drop_eq_getElem?_toList_append, h]
  show i + (List.takeWhile runC (c :: cs.drop (i + 1))).length = _
  rw [List.takeWhile_cons, r]
  show i + ((List.takeWhile runC (cs.drop (i + 1))).length + 1) = _
  omega
theorem ok_endrun (F : Fun K "end_of_run" "end_of_run" sEndOfRun f fd) (B : Blt mg) (DR : Dn P w K mg base 1 "is_run_part" ["character"] (spPu fun vs v => ∃ c, vs = [.str (So [c])] ∧ v = .bl (runC c))) : FnOk P w K mg base CX0 2 f fd ["text", "place"] (spPu fun vs v => ∃ (cs : List Nat) (i : Nat), vs = [.str (So cs), .int i] ∧ i ≤ cs.length ∧ cs.length ≤ 10000 ∧ v = .int (endR cs i : Nat)) := by
  refine F.ok sc_endrun (fun vs H Q E ⟨_, ⟨_, _, e, _⟩, _⟩ => by rw [e]; rfl) (fun cdv A outer s H vs Q E hr h => ?_)
  obtain ⟨v, ⟨cs, i, rfl, hi, hl, rfl⟩, q⟩ := h
  refine ⟨_, pss_cons (ps_while PassesOwn.never (pw_and (pt_cmpR op_lt (pv 1) (pe_callB call_len (by rfl) B.len PySem.boot_len (pa_cons (pv 0) pa_nil)) (nomark _)) (pw_and1 (pt_val (pe_dn DR hr (by rfl) (pa_cons (pe_ix ix_str (pv 0) (pv 1) (fun _ _ => rfl)) pa_nil))))).pt (pss_one (ps_aug (i := 1) sc_endrun.nd rfl (Or.inl rfl) pe_int ip_add))) (pss_one (ps_ret (pv 1))), ?_⟩
  refine ⟨fun m σ H2 => ∃ k, m = cs.length - k ∧ k ≤ cs.length ∧ σ = [some (.str (So cs)), some (.int (k : Nat))] ∧ endR cs i = endR cs k ∧ Same H H2, ⟨_, i, rfl, hi, rfl, rfl, .refl H⟩, ?_⟩
  rintro m σ H2 ⟨k, rfl, hk, rfl, ek, s2⟩
  refine ⟨_, rfl, _, rfl, .str (So cs), cs.length, rfl, ⟨line10 hl, rfl⟩, _, _, rfl, rfl, _, rfl, ?_⟩
  by_cases hlt : k < cs.length
  · rw [decide_eq_true (by omega : (k : Int) < (cs.length : Int))]
    have hc : cs[k]? = some (cs[k]'hlt) := List.getElem?_eq_getElem hlt
    refine iteT ⟨_, rfl, _, rfl, So cs, (k : Int), cs[k]'hlt, rfl, rfl, line10 hl, atI_nat hc, _, ⟨_, rfl, rfl⟩, fun H3 s3 => ⟨_, rfl, ?_⟩⟩
    cases er : runC (cs[k]'hlt) with
    | true =>
      refine iteT ⟨fun σ' H' => ∃ k', k' = k + 1 ∧ σ' = [some (.str (So cs)), some (.int (k' : Nat))] ∧ Same H H', fun σ' H' ⟨k', e, e2, e3⟩ => ⟨_, ?_, k', rfl, by omega, e2, by rw [e, ← endR_go hc er]; exact ek, e3⟩, _, rfl, _, _, rfl, rfl, k + 1, rfl, rfl, s2.trans s3⟩
      omega
    | false =>
      refine iteF ⟨_, rfl, ?_⟩
      have e := endR_no hc er
      rw [ek, e] at q
      exact q _ (s2.trans s3)
  · rw [decide_eq_false (by omega : ¬ (k : Int) < (cs.length : Int))]
    refine iteF (iteF ⟨_, rfl, ?_⟩)
    rw [ek, endR_end (by omega)] at q
    exact q _ s2
end
end Ask
namespace Ask
open PySem L2 PySem.Spec PyProof.Rows PySem.AskX LamX NdefX

/-! ### [p(c) for c in text] -/
theorem lcm_str {z : Str} {p : Nat → Bool} {te : TE} {vs : List Nat} {σ : L2.St} {H1 : Hp} {D : Addr} {Qd : Hp → Prop} {i : Nat} (hD : H1 D = none) (sm : z.length ≤ 1000) (hw : ∀ x, wipe ((wipe σ vs).set i (some x)) vs = wipe σ vs)
    (hs : ∀ (c : Nat) (H2 : Hp) (Q : VK), Q (.bl (p c)) H2 → te ((wipe σ vs).set i (some (.str ⟨#[c]⟩))) H2 Q) (hd : ∀ H', Same H1 H' → H' D = some (.lst ((z.cps.toList.map p).map V.bl)) → Qd H') :
    ∃ W : Nat → Nat → Hp → Prop, (∃ m, W 0 m (L2.upd H1 D (.lst []))) ∧ ∀ i' m H, W i' m H →
      ((Its z).stop i' H ∧ Qd H) ∨ ((Its z).go i' H ∧ ∃ Nx : Hp → Prop, (∀ H', Nx H' → ∃ m', m' < m ∧ W (i' + 1) m' H') ∧ ∀ x H', (Its z).yld i' H x H' → gName i x (wipe σ vs) H' fun σ2 H2 => wipe σ2 vs = wipe σ vs ∧ tYes σ2 H2 fun b H3 =>
        if b = true then te σ2 H3 fun y H4 => ∃ acc, H4 D = some (.lst acc) ∧ acc.length < sizeLine ∧ Nx (L2.upd H4 D (.lst (acc ++ [y]))) else Nx H3) := by
  refine lc_it walk_str (fun i H2 => Same H1 H2 ∧ H2 D = some (.lst (((z.cps.toList.take i).map p).map V.bl))) ⟨same_new hD _, upd_same⟩ (fun _ _ _ _ => trivial) ?_ ?_
  · rintro k x H2 H3 hi ⟨s2, hD2⟩ ⟨rfl, c, hc, rfl⟩
    have e : z.cps.toList[k]? = some c := by rw [Array.getElem?_toList]; exact hc
    refine ⟨hw _, tYes_go (hs c _ _ ⟨_, hD2, ?_, fun b u eu => ?_, ?_⟩)⟩
    · refine small1000 ?_
      rw [List.length_map, List.length_map, List.length_take]
      exact Nat.le_trans (Nat.min_le_left _ _) (Nat.le_of_lt (Nat.lt_of_lt_of_le hi sm))
    · rw [upd_ne (ne_of_none eu hD)]
      exact s2 _ _ eu
    · rw [upd_same, List.take_add_one, e]
      simp
  · rintro H2 ⟨s2, hD2⟩
    have ez : z.cps.toList.take z.cps.size = z.cps.toList := by rw [← Array.length_toList, List.take_length]
    rw [ez] at hD2
    exact hd H2 s2 hD2
/-! ### names, texts, numbers -/
def w_self : List Nat := [115, 101, 108, 102]
def kwN : List (List Nat) := [w_all, w_and, w_any, w_as, w_by, w_case, w_coalesce, w_count, w_cross, w_desc, w_distinct, w_else, w_end, w_except, w_exists, w_first, w_from, w_full, w_group, w_having, w_in, w_inner, w_intersect, w_is, w_join, w_least, w_left, w_most, w_not, w_null, w_on, w_one, w_or, w_order, w_select, w_sum, w_then, w_union, w_when, w_where]
def nameN (l : List Nat) : Bool := decide (1 ≤ l.length) && decide (l.length ≤ 12) && l.all lowC && !decide (l = w_self) && !decide (l ∈ kwN)
def letC (c : Nat) : Bool := decide (32 ≤ c) && decide (c ≤ 126) && !decide (c = 37)
def textN (l : List Nat) : Bool := decide (l.length ≤ 40) && l.all letC
def numN (l : List Nat) : Bool := decide (l.length ≤ 40) && l.all digC && (decide (l = [48]) || !decide (l.head? = some 48))
def decN (l : List Nat) : Nat := l.foldl (fun n c => n * 10 + (c - 48)) 0
def sigN : List (List Nat) := [w_ne, w_le, w_ge, w_op, w_cl, w_comma, w_dot, w_star, w_plus, w_minus, w_eq, w_lt, w_gt]
/-- the kind of a run's word, what it says -/
def runWd (l : List Nat) : Kd × Tr := if l ∈ kwN then (.word, .str l) else if nameN l then (.name, .str l) else if numN l then (.int, .int (decN l)) else (.wrong, .non)
structure ScG (K : PySem.W.Frag) (mg : Str → Option Value) : Prop where
  g : RdG mg
  letters : ∃ t, mg "MOST_LETTERS" = some (.int 12 t)
  chars : ∃ t, mg "MOST_CHARACTERS" = some (.int 40 t)
  perc : ∃ t, mg "PERCENT" = some (.int 37 t)
  digits : ∃ t, mg "MOST_DIGITS" = some (.int 40 t)
  kws : ∃ a, mg "KEYWORDS" = some (.ref a) ∧ ∀ H, SqT K H a (kwN.map fun z => V.str (So z))
  signs : ∃ a, mg "SIGNS" = some (.ref a) ∧ ∀ H, SqT K H a (sigN.map fun z => V.str (So z))
theorem t_self : ("self" : Str) = So w_self := by decide +kernel
theorem all_map_id (p : Nat → Bool) (l : List Nat) : ((l.map p).all id) = l.all p := by rw [List.all_map]; rfl
theorem strs_flat (l : List (List Nat)) : (l.map fun z => V.str (So z)).all flatV = true := by
  rw [List.all_map]
  exact List.all_eq_true.mpr fun _ _ => rfl
section
variable {P : Program} {w : World} {K : PySem.W.Frag} {mg : Str → Option Value} {base : Heap} {f : Addr} {fd : FuncData}
abbrev n_isname : List Str := ["thing", "letter"]
theorem sc_isname : FnScope n_isname ["thing"] (defScope sIsName) := ⟨rfl, rfl, rfl, by decide +kernel, rfl, by decide +kernel, by decide +kernel⟩
theorem ok_isname (F : Fun K "is_name" "is_name" sIsName f fd) (B : Blt mg) (G : ScG K mg) : FnOk P w K mg base CX0 1 f fd ["thing"] (spPu fun vs v => ∃ l : List Nat, vs = [.str (So l)] ∧ l.length ≤ 10000 ∧ v = .bl (nameN l)) := by
  refine F.ok sc_isname (fun vs H Q E ⟨_, ⟨_, e, _⟩, _⟩ => by rw [e]; rfl) (fun cdv A outer s H vs Q E hr h => ?_)
  obtain ⟨v, ⟨l, rfl, hl, rfl⟩, q⟩ := h
  obtain ⟨tk, hmost⟩ := G.letters
  obtain ⟨kw, hkw, skw⟩ := G.kws
  refine ⟨_, pss_cons (ps_if (pw_or (pt_not (pt_val (pe_callB call_isi (by rfl) B.isi boot_isi (pa_cons (pv 0) (pa_cons (pe_bltn (v := .ty "str") (by rfl) B.str boot_str rfl) pa_nil))))) (pw_or1 (pt_not (pt_chain op_le op_le pe_int (pe_callB call_len (by rfl) B.len PySem.boot_len (pa_cons (pv 0) pa_nil)) (pe_glob (v := .int 12) (by rfl) hmost ⟨_, rfl⟩))))).pt (pss_one (ps_ret pe_bl)) pss_nil)
      (pss_cons (ps_if (pt_not (pt_val (pe_callB (cr_all rfl) (by rfl) B.all boot_all (pa_cons (pe_lc (own := [("letter", 1)]) (g := gName 1) (tt := tYes) rfl sc_isname.nd (pi_str (pv 0)) (blkOk_by (own := [("letter", 1)]) (N := n_isname) (sc := defScope sIsName) (by decide +kernel)) (fun _ _ _ _ _ => pg_name (i := 1) sc_isname.nd rfl (Or.inl rfl)) (fun _ _ _ _ _ => pts_nil) (fun _ _ _ _ _ => (pe_chain op_le_str op_le_str pe_str (pv 1) pe_str))) pa_nil)))) (pss_one (ps_ret pe_bl)) pss_nil)
      (pss_one (ps_ret (pe_and (pe_cmpR op_ne (pv 0) pe_str (nomark _)) (pe_one (pe_cmpR op_notIn_seq (pv 0) (pe_glob (v := .ref kw) (by rfl) hkw rfl) (by with_unfolding_all rfl))))))), ?_⟩
  refine ⟨_, rfl, _, .ty "str", .type "str", .type "str", true, rfl, .ty _, .base (.str _), kit_ty (by decide +kernel), _, rfl, ?_⟩
  refine iteF ⟨_, rfl, .str (So l), l.length, rfl, ⟨line10 hl, rfl⟩, _, _, rfl, rfl, _, rfl, ?_⟩
  by_cases h1 : 1 ≤ l.length
  · rw [decide_eq_true (show (1 : Int) ≤ (l.length : Int) by omega)]
    refine iteT ⟨_, _, rfl, rfl, _, rfl, ?_⟩
    by_cases h2 : l.length ≤ 12
    · rw [decide_eq_true (show (l.length : Int) ≤ 12 by omega)]
      refine iteF ⟨_, rfl, So l, rfl, fun D hD => lcm_str (p := lowC) hD (by show l.length ≤ 1000; omega) (fun _ => rfl) (fun c H2 Q q => ?_) (fun H2 s2 hD2 => ?_)⟩
      · refine ⟨_, rfl, _, _, rfl, rfl, _, rfl, ?_⟩
        rw [low_at cp_a]
        refine ite2 (fun g1 => ?_) (fun g1 => ?_)
        · refine ⟨_, _, rfl, rfl, ?_⟩
          rw [high_at cp_z]
          have e : decide (c ≤ 122) = lowC c := by unfold lowC; rw [g1, Bool.true_and]
          rw [e]
          exact q
        · have e : false = lowC c := by unfold lowC; rw [Bool.eq_false_iff.mpr g1, Bool.false_and]
          rw [e]
          exact q
      · refine ⟨D, _, rfl, SqL.of hD2, _, rfl, ?_⟩
        rw [all_map_id]
        show if (!l.all lowC) = true then _ else _
        cases ea : l.all lowC with
        | false =>
          have e : nameN l = false := by unfold nameN; rw [ea]; simp
          rw [e] at q
          exact iteT (q _ s2)
        | true =>
          refine iteF ⟨_, rfl, rfl, _, rfl, ?_⟩
          have en : nameN l = (!decide (l = w_self) && !decide (l ∈ kwN)) := by
            unfold nameN
            rw [ea, decide_eq_true h1, decide_eq_true h2]
            simp
          have ev : decide ((V.str (So l)) = V.str "self") = decide (l = w_self) := decide_eq_decide.mpr ⟨fun z => So_inj ((V.str.inj z).trans t_self), fun z => by rw [z, t_self]⟩
          rw [ev]
          refine ite2 (fun g1 => ?_) (fun g1 => ?_)
          · refine ⟨_, rfl, kw, _, rfl, .inr (skw _), rfl, strs_flat _, ?_⟩
            rw [in_So]
            rw [g1, Bool.true_and] at en
            rw [en] at q
            exact q _ s2
          · rw [Bool.eq_false_iff.mpr g1, Bool.false_and] at en
            rw [en] at q
            exact q _ s2
    · rw [decide_eq_false (show ¬ (l.length : Int) ≤ 12 by omega)]
      have e : nameN l = false := by unfold nameN; rw [decide_eq_false h2]; simp
      rw [e] at q
      exact iteT (q _ (.refl H))
  · rw [decide_eq_false (show ¬ (1 : Int) ≤ (l.length : Int) by omega)]
    have e : nameN l = false := by unfold nameN; rw [decide_eq_false h1]; simp
    rw [e] at q
    exact iteF ⟨_, rfl, iteT (q _ (.refl H))⟩
abbrev n_istext : List Str := ["thing", "letter"]
theorem sc_istext : FnScope n_istext ["thing"] (defScope sIsText) := ⟨rfl, rfl, rfl, by decide +kernel, rfl, by decide +kernel, by decide +kernel⟩
theorem cp_sp : (" " : Str).cps.toList = [32] := by decide +kernel
theorem cp_ti : ("~" : Str).cps.toList = [126] := by decide +kernel
theorem boot_ord : bootBuiltins ("ord" : Str) = some (.builtin "ord") := by decide +kernel
theorem ok_istext (F : Fun K "is_text" "is_text" sIsText f fd) (B : Blt mg) (G : ScG K mg) : FnOk P w K mg base CX0 1 f fd ["thing"] (spPu fun vs v => ∃ l : List Nat, vs = [.str (So l)] ∧ l.length ≤ 10000 ∧ v = .bl (textN l)) := by
  refine F.ok sc_istext (fun vs H Q E ⟨_, ⟨_, e, _⟩, _⟩ => by rw [e]; rfl) (fun cdv A outer s H vs Q E hr h => ?_)
  obtain ⟨v, ⟨l, rfl, hl, rfl⟩, q⟩ := h
  obtain ⟨t1, hmost⟩ := G.chars
  obtain ⟨t2, hperc⟩ := G.perc
  refine ⟨_, pss_cons (ps_if (pw_or (pt_not (pt_val (pe_callB call_isi (by rfl) B.isi boot_isi (pa_cons (pv 0) (pa_cons (pe_bltn (v := .ty "str") (by rfl) B.str boot_str rfl) pa_nil))))) (pw_or1 (pt_cmpR op_gt (pe_callB call_len (by rfl) B.len PySem.boot_len (pa_cons (pv 0) pa_nil)) (pe_glob (v := .int 40) (by rfl) hmost ⟨_, rfl⟩) (nomark _)))).pt (pss_one (ps_ret pe_bl)) pss_nil)
      (pss_one (ps_ret (pe_callB (cr_all rfl) (by rfl) B.all boot_all (pa_cons (pe_lc (own := [("letter", 1)]) (g := gName 1) (tt := tYes) rfl sc_istext.nd (pi_str (pv 0)) (blkOk_by (own := [("letter", 1)]) (N := n_istext) (sc := defScope sIsText) (by decide +kernel)) (fun _ _ _ _ _ => pg_name (i := 1) sc_istext.nd rfl (Or.inl rfl)) (fun _ _ _ _ _ => pts_nil)
            (fun _ _ _ _ _ => pe_and (pe_chain op_le_str op_le_str pe_str (pv 1) pe_str) (pe_one (pe_cmpR op_ne (pe_callB call_ord (by rfl) B.ord boot_ord (pa_cons (pv 1) pa_nil)) (pe_glob (v := .int 37) (by rfl) hperc ⟨_, rfl⟩) (nomark _))))) pa_nil)))), ?_⟩
  refine ⟨_, rfl, _, .ty "str", .type "str", .type "str", true, rfl, .ty _, .base (.str _), kit_ty (by decide +kernel), _, rfl, ?_⟩
  refine iteF ⟨_, rfl, .str (So l), l.length, rfl, ⟨line10 hl, rfl⟩, _, _, rfl, rfl, _, rfl, ?_⟩
  by_cases h1 : l.length ≤ 40
  · rw [decide_eq_false (show ¬ (40 : Int) < (l.length : Int) by omega)]
    refine iteF ⟨_, rfl, So l, rfl, fun D hD => lcm_str (p := letC) hD (by show l.length ≤ 1000; omega) (fun _ => rfl) (fun c H2 Q q => ?_) (fun H2 s2 hD2 => ?_)⟩
    · refine ⟨_, rfl, _, _, rfl, rfl, _, rfl, ?_⟩
      rw [low_at cp_sp]
      refine ite2 (fun g1 => ?_) (fun g1 => ?_)
      · refine ⟨_, _, rfl, rfl, _, rfl, ?_⟩
        rw [high_at cp_ti]
        refine ite2 (fun g2 => ?_) (fun g2 => ?_)
        · refine ⟨_, rfl, _, rfl, rfl, rfl, ?_⟩
          have e37 : (!decide (V.int ((⟨#[c]⟩ : Str).cps.getD 0 0 : Nat) = V.int 37)) = !decide (c = 37) := by
            congr 1
            refine decide_eq_decide.mpr ⟨fun q => ?_, fun q => by rw [q]; rfl⟩
            have q := V.int.inj q
            have e : ((⟨#[c]⟩ : Str).cps.getD 0 0 : Nat) = c := rfl
            rw [e] at q
            omega
          rw [e37]
          have e : letC c = !decide (c = 37) := by unfold letC; rw [g1, g2]; rfl
          rw [e] at q
          exact q
        · have e : letC c = false := by unfold letC; rw [g1, Bool.eq_false_iff.mpr g2]; rfl
          rw [e] at q
          exact q
      · have e : letC c = false := by unfold letC; rw [Bool.eq_false_iff.mpr g1]; rfl
        rw [e] at q
        exact ⟨_, rfl, q⟩
    · refine ⟨D, _, rfl, SqL.of hD2, ?_⟩
      rw [all_map_id]
      have e : textN l = l.all letC := by unfold textN; rw [decide_eq_true h1, Bool.true_and]
      rw [e] at q
      exact q _ s2
  · rw [decide_eq_true (show (40 : Int) < (l.length : Int) by omega)]
    have e : textN l = false := by unfold textN; rw [decide_eq_false h1, Bool.false_and]
    rw [e] at q
    exact iteT (q _ (.refl H))
abbrev n_isnum : List Str := ["run", "character"]
theorem sc_isnum : FnScope n_isnum ["run"] (defScope sIsNumber) := ⟨rfl, rfl, rfl, by decide +kernel, rfl, by decide +kernel, by decide +kernel⟩
theorem ok_isnum (F : Fun K "is_number" "is_number" sIsNumber f fd) (B : Blt mg) (G : ScG K mg) : FnOk P w K mg base CX0 1 f fd ["run"] (spPu fun vs v => ∃ l : List Nat, vs = [.str (So l)] ∧ l ≠ [] ∧ l.length ≤ 10000 ∧ v = .bl (numN l)) := by
  refine F.ok sc_isnum (fun vs H Q E ⟨_, ⟨_, e, _⟩, _⟩ => by rw [e]; rfl) (fun cdv A outer s H vs Q E hr h => ?_)
  obtain ⟨v, ⟨l, rfl, hne, hl, rfl⟩, q⟩ := h
  obtain ⟨t1, hmost⟩ := G.digits
  refine ⟨_, pss_cons (ps_if (pw_or (pt_cmpR op_gt (pe_callB call_len (by rfl) B.len PySem.boot_len (pa_cons (pv 0) pa_nil)) (pe_glob (v := .int 40) (by rfl) hmost ⟨_, rfl⟩) (nomark _)) (pw_or1 (pt_not (pt_val (pe_callB (cr_all rfl) (by rfl) B.all boot_all (pa_cons (pe_lc (own := [("character", 1)]) (g := gName 1) (tt := tYes) rfl sc_isnum.nd (pi_str (pv 0)) (blkOk_by (own := [("character", 1)]) (N := n_isnum) (sc := defScope sIsNumber) (by decide +kernel)) (fun _ _ _ _ _ => pg_name (i := 1) sc_isnum.nd rfl (Or.inl rfl)) (fun _ _ _ _ _ => pts_nil)
            (fun _ _ _ _ _ => (pe_chain op_le_str op_le_str pe_str (pv 1) pe_str))) pa_nil)))))).pt (pss_one (ps_ret pe_bl)) pss_nil)
      (pss_one (ps_ret (pe_or (pe_cmpR op_eq (pv 0) pe_str (nomark _)) (pe_one (pe_cmpR op_ne (pe_ix ix_str (pv 0) pe_int (fun _ _ => rfl)) pe_str (nomark _)))))), ?_⟩
  refine ⟨_, rfl, .str (So l), l.length, rfl, ⟨line10 hl, rfl⟩, _, _, rfl, rfl, _, rfl, ?_⟩
  by_cases h1 : l.length ≤ 40
  · rw [decide_eq_false (show ¬ (40 : Int) < (l.length : Int) by omega)]
    refine iteF ⟨_, rfl, So l, rfl, fun D hD => lcm_str (p := digC) hD (by show l.length ≤ 1000; omega) (fun _ => rfl) (fun c H2 Q q => ?_) (fun H2 s2 hD2 => ?_)⟩
    · refine ⟨_, rfl, _, _, rfl, rfl, _, rfl, ?_⟩
      rw [low_at cp_0]
      refine ite2 (fun g1 => ?_) (fun g1 => ?_)
      · refine ⟨_, _, rfl, rfl, ?_⟩
        rw [high_at cp_9]
        have e : decide (c ≤ 57) = digC c := by unfold digC; rw [g1, Bool.true_and]
        rw [e]
        exact q
      · have e : false = digC c := by unfold digC; rw [Bool.eq_false_iff.mpr g1, Bool.false_and]
        rw [e]
        exact q
    · refine ⟨D, _, rfl, SqL.of hD2, _, rfl, ?_⟩
      rw [all_map_id]
      show if (!l.all digC) = true then _ else _
      cases ea : l.all digC with
      | false =>
        have e : numN l = false := by unfold numN; rw [ea]; simp
        rw [e] at q
        exact iteT (q _ s2)
      | true =>
        have en : numN l = (decide (l = [48]) || !decide (l.head? = some 48)) := by unfold numN; rw [ea, decide_eq_true h1]; simp
        refine iteF ⟨_, rfl, rfl, _, rfl, ?_⟩
        have ev : decide ((V.str (So l)) = V.str "0") = decide (l = [48]) := decide_eq_decide.mpr ⟨fun z => So_inj ((V.str.inj z).trans (by decide +kernel : ("0" : Str) = So [48])), fun z => by rw [z]; exact congrArg V.str (by decide +kernel : So [48] = ("0" : Str))⟩
        rw [ev]
        refine ite2 (fun g1 => ?_) (fun g1 => ?_)
        · rw [g1, Bool.true_or] at en
          rw [en] at q
          exact q _ s2
        · rw [Bool.eq_false_iff.mpr g1, Bool.false_or] at en
          cases l with
          | nil => exact absurd rfl hne
          | cons c r =>
          refine ⟨_, rfl, So (c :: r), 0, c, rfl, rfl, line10 hl, atI_nat (j := 0) rfl, rfl, ?_⟩
          have e2 : (!decide (V.str ⟨#[c]⟩ = V.str "0")) = numN (c :: r) := by
            rw [en]
            congr 1
            refine decide_eq_decide.mpr ⟨fun z => ?_, fun z => ?_⟩
            · have z2 := So_inj (((V.str.inj z : (⟨#[c]⟩ : Str) = "0")).trans (by decide +kernel : ("0" : Str) = So [48]))
              rw [show c = 48 from List.head_eq_of_cons_eq z2]
              rfl
            · rw [show c = 48 from Option.some.inj z]
              exact congrArg V.str (by decide +kernel : (⟨#[48]⟩ : Str) = ("0" : Str))
          rw [e2]
          exact q _ s2
  · rw [decide_eq_true (show (40 : Int) < (l.length : Int) by omega)]
    have e : numN l = false := by unfold numN; rw [decide_eq_false h1]; simp
    rw [e] at q
    exact iteT (q _ (.refl H))
end
end Ask
namespace Ask
open PySem L2 PySem.Spec PyProof.Rows PySem.AskX LamX NdefX

/-! ### a run's word -/
/-- a new tuple of a kind and what it says -/
def spRunW : Sp := fun vs H Q _ => ∃ l : List Nat, vs = [.str (So l)] ∧ l ≠ [] ∧ l.length ≤ 10000 ∧ ∀ (p : Addr) (u : V) (H' : Hp), Same H H' → H' p = some (.tup [.str (runWd l).1.txt, u]) → RtAt H' u (runWd l).2 → Q (.ref p) H'
/-- the string behind a quote, the place behind it -/
def strL : List Nat → List Nat → Nat → Bool → Option (List Nat × Nat)
  | [], acc, n, b => if b then some (acc, n) else none
  | c :: r, acc, n, true => if c = 39 then strL r (acc ++ [39]) (n + 1) false else some (acc, n)
  | c :: r, acc, n, false => if c = 39 then strL r acc (n + 1) true else strL r (acc ++ [c]) (n + 1) false
theorem dec_int {l : List Nat} (h : numN l = true) (hne : l ≠ []) : PySem.intText? (So l) = some ((decN l : Nat) : Int) := by
  unfold numN at h
  rw [Bool.and_eq_true, Bool.and_eq_true, decide_eq_true_eq] at h
  exact SX.int_S (a := l) h.1.2 hne (by omega)
theorem boot_int2 : bootBuiltins ("int" : Str) = some (.type "int") := by decide +kernel
theorem join_one : ∀ l : List Nat, Txt.join (So []) (l.map fun c => So [c]) = So l := by
  intro l
  have e := SX.join_S [] (l.map fun c => [c])
  rw [List.map_map] at e
  refine (show _ = _ from e).trans (congrArg So ?_)
  induction l with
  | nil => rfl
  | cons c r ih =>
    cases r with
    | nil => rfl
    | cons d r =>
      have ih := ih (by rw [← List.map_map]; exact SX.join_S [] ((d :: r).map fun c => [c]))
      show [c] ++ [] ++ TL.joinL [] ((d :: r).map fun c => [c]) = c :: d :: r
      rw [ih]
      rfl
section
variable {P : Program} {w : World} {K : PySem.W.Frag} {mg : Str → Option Value} {base : Heap} {f : Addr} {fd : FuncData}
theorem sc_runw : FnScope ["run"] ["run"] (defScope sRunWord) := ⟨rfl, rfl, rfl, by decide +kernel, rfl, by decide +kernel, by decide +kernel⟩
abbrev spNm : Sp := spPu fun vs v => ∃ l : List Nat, vs = [.str (So l)] ∧ l.length ≤ 10000 ∧ v = .bl (nameN l)
abbrev spTx : Sp := spPu fun vs v => ∃ l : List Nat, vs = [.str (So l)] ∧ l.length ≤ 10000 ∧ v = .bl (textN l)
abbrev spNum : Sp := spPu fun vs v => ∃ l : List Nat, vs = [.str (So l)] ∧ l ≠ [] ∧ l.length ≤ 10000 ∧ v = .bl (numN l)
theorem ok_runw (F : Fun K "run_word" "run_word" sRunWord f fd) (B : Blt mg) (G : ScG K mg) (DN : Dn P w K mg base 1 "is_name" ["thing"] spNm) (DM : Dn P w K mg base 1 "is_number" ["run"] spNum) : FnOk P w K mg base CX0 2 f fd ["run"] spRunW := by
  refine F.ok sc_runw (fun vs H Q E ⟨_, e, _⟩ => by rw [e]; rfl) (fun cdv A outer s H vs Q E hr h => ?_)
  obtain ⟨l, rfl, hne, hl, q⟩ := h
  obtain ⟨kw, hkw, skw⟩ := G.kws
  obtain ⟨t1, g1⟩ := G.g.word
  obtain ⟨t2, g2⟩ := G.g.name
  obtain ⟨t3, g3⟩ := G.g.int
  obtain ⟨t4, g4⟩ := G.g.wrong
  refine ⟨_, pss_cons (ps_if (pt_cmpR op_in_seq (pv 0) (pe_glob (v := .ref kw) (by rfl) hkw rfl) (by with_unfolding_all rfl)) (pss_one (ps_ret (pe_tup (pa_cons (pe_glob (v := .str "word") (by rfl) g1 ⟨_, rfl⟩) (pa_cons (pv 0) pa_nil))))) pss_nil)
    (pss_cons (ps_if (pt_val (pe_dn DN hr (by rfl) (pa_cons (pv 0) pa_nil))) (pss_one (ps_ret (pe_tup (pa_cons (pe_glob (v := .str "name") (by rfl) g2 ⟨_, rfl⟩) (pa_cons (pv 0) pa_nil))))) pss_nil)
    (pss_cons (ps_if (pt_val (pe_dn DM hr (by rfl) (pa_cons (pv 0) pa_nil))) (pss_one (ps_ret (pe_tup (pa_cons (pe_glob (v := .str "integer") (by rfl) g3 ⟨_, rfl⟩) (pa_cons (pe_callTy call_int_str (by rfl) B.int boot_int2 (pa_cons (pv 0) pa_nil)) pa_nil))))) pss_nil)
    (pss_one (ps_ret (pe_tup (pa_cons (pe_glob (v := .str "wrong") (by rfl) g4 ⟨_, rfl⟩) (pa_cons pe_non pa_nil))))))), ?_⟩
  have fin : ∀ (H1 : Hp) (s1 : Same H H1) (k : Kd) (u : V) (t : Tr), runWd l = (k, t) → RtAt H1 u t → ∀ p, H1 p = none → Q (.ref p) (L2.upd H1 p (.tup [.str k.txt, u])) := by
    intro H1 s1 k u t e r p hp
    rw [e] at q
    exact q p u _ (s1.trans (same_new hp _)) upd_same (r.tups (Tups.of_same (same_new hp _)))
  refine ⟨_, rfl, kw, _, rfl, .inr (skw _), rfl, strs_flat _, _, rfl, ?_⟩
  rw [in_So]
  by_cases h1 : l ∈ kwN
  · rw [decide_eq_true h1]
    refine iteT ⟨_, rfl, (by decide : 2 ≤ sizeLine), fin H (.refl H) .word _ (.str l) (by unfold runWd; rw [if_pos h1]) (.str l)⟩
  · rw [decide_eq_false h1]
    refine iteF ⟨_, rfl, _, ⟨l, rfl, hl, rfl⟩, fun H1 s1 => ⟨_, rfl, ?_⟩⟩
    cases h2 : nameN l with
    | true => exact iteT ⟨_, rfl, (by decide : 2 ≤ sizeLine), fin H1 s1 .name _ (.str l) (by unfold runWd; rw [if_neg h1, if_pos h2]) (.str l)⟩
    | false =>
      refine iteF ⟨_, rfl, _, ⟨l, rfl, hne, hl, rfl⟩, fun H2 s2 => ⟨_, rfl, ?_⟩⟩
      cases h3 : numN l with
      | true =>
        have h4 := h3
        unfold numN at h4
        rw [Bool.and_eq_true, Bool.and_eq_true, decide_eq_true_eq] at h4
        refine iteT ⟨_, rfl, So l, _, rfl, dec_int h3 hne, (by show l.length ≤ 640; omega), (by decide : 2 ≤ sizeLine), fin H2 (s1.trans s2) .int _ (.int (decN l : Nat)) (by unfold runWd; rw [if_neg h1, if_neg (Bool.eq_false_iff.mp h2), if_pos h3]) (.int _)⟩
      | false => exact iteF ⟨(by decide : 2 ≤ sizeLine), fin H2 (s1.trans s2) .wrong _ .non (by unfold runWd; rw [if_neg h1, if_neg (Bool.eq_false_iff.mp h2), if_neg (Bool.eq_false_iff.mp h3)]) .non⟩
end
end Ask
namespace Ask
open PySem L2 PySem.Spec PyProof.Rows PySem.AskX LamX NdefX

/-! ### strings, parameters, words -/
def wrongW : Kd × Tr × Nat := (.wrong, .non, 0)
/-- a string's word behind its quote, by the text and the quote's place -/
def strW (cs : List Nat) (i : Nat) : Kd × Tr × Nat := match strL (cs.drop (i + 1)) [] (i + 1) false with
  | some (s, e) => if textN s then (.str, .str s, e) else wrongW
  | none => wrongW
def parW (cs : List Nat) (i : Nat) : Kd × Tr × Nat := if nameN ((cs.drop (i + 1)).takeWhile runC) then (.par, .str ((cs.drop (i + 1)).takeWhile runC), endR cs (i + 1)) else wrongW
def signW (cs : List Nat) (i : Nat) : Kd × Tr × Nat := match sigN.find? (fun s => decide ((cs.drop i).take s.length = s)) with
  | some s => (.word, .str s, i + s.length)
  | none => wrongW
/-- the word at a place: kind, what it says, the place behind it -/
def wordW (cs : List Nat) (i : Nat) : Kd × Tr × Nat := match cs[i]? with
  | none => wrongW
  | some c => if runC c then ((runWd ((cs.drop i).takeWhile runC)).1, (runWd ((cs.drop i).takeWhile runC)).2, endR cs i) else if c = 39 then strW cs i else if c = 58 then parW cs i else signW cs i
/-- a new tuple of kind, what it says, the place behind -/
def spWd (W : List Nat → Nat → Kd × Tr × Nat) (ok : List Nat → Nat → Prop) : Sp := fun vs H Q _ => ∃ (cs : List Nat) (i : Nat), vs = [.str (So cs), .int i] ∧ i < cs.length ∧ cs.length ≤ 9999 ∧ ok cs i ∧
  ∀ (p : Addr) (u : V) (e : Int) (H' : Hp), Same H H' → H' p = some (.tup [.str (W cs i).1.txt, u, .int e]) → RtAt H' u (W cs i).2.1 → ((W cs i).1 ≠ .wrong → e = ((W cs i).2.2 : Nat)) → Q (.ref p) H'
def spStrAt : Sp := fun vs H Q _ => ∃ (cs : List Nat) (i : Nat), vs = [.str (So cs), .int i] ∧ i < cs.length ∧ cs.length ≤ 9999 ∧ (match strL (cs.drop (i + 1)) [] (i + 1) false with
  | none => ∀ H', Same H H' → Q .non H'
  | some (s, e) => ∀ (p : Addr) (H' : Hp), Same H H' → s.length ≤ cs.length → H' p = some (.tup [.str (So s), .int (e : Nat)]) → Q (.ref p) H')
theorem drop_at {cs : List Nat} {k : Nat} {c : Nat} (h : cs[k]? = some c) : cs.drop k = c :: cs.drop (k + 1) := by
  rw [List.drop_eq_getElem?_toList_append, h]
  rfl
theorem slice_one {cs : List Nat} {k : Nat} (h : k ≤ cs.length) : Txt.slice (So cs) (some (k : Int)) (some ((k : Int) + 1)) = So ((cs.drop k).take 1) := by
  have e := slice_both cs (i := k) (j := k + 1) (by omega) h
  rw [show k + 1 - k = 1 by omega] at e
  exact e
section
variable {P : Program} {w : World} {K : PySem.W.Frag} {mg : Str → Option Value} {base : Heap} {f : Addr} {fd : FuncData}
theorem sc_strat : FnScope ["text", "place", "characters"] ["text", "place"] (defScope sStringAt) := ⟨rfl, rfl, rfl, by decide +kernel, rfl, by decide +kernel, by decide +kernel⟩
theorem q39 : ("'" : Str) = So [39] := by decide +kernel
theorem ch_eq (c : Nat) : decide (V.str ⟨#[c]⟩ = V.str "'") = decide (c = 39) := decide_eq_decide.mpr ⟨fun z => by
  have z2 := So_inj ((V.str.inj z : (⟨#[c]⟩ : Str) = "'").trans q39)
  exact List.head_eq_of_cons_eq z2, fun z => by rw [z, q39]⟩
theorem ok_strat (F : Fun K "string_at" "string_at" sStringAt f fd) (B : Blt mg) : FnOk P w K mg base CX0 1 f fd ["text", "place"] spStrAt := by
  refine F.ok sc_strat (fun vs H Q E ⟨_, _, e, _⟩ => by rw [e]; rfl) (fun cdv A outer s H vs Q E hr h => ?_)
  obtain ⟨cs, i, rfl, hi, hl, q⟩ := h
  refine ⟨_, pss_cons (ps_set (i := 2) sc_strat.nd rfl (Or.inl rfl) (pe_lst pa_nil))
    (pss_cons (ps_aug (i := 1) sc_strat.nd rfl (Or.inl rfl) pe_int ip_add)
    (pss_cons (ps_while PassesOwn.never (pt_cmpR op_lt (pv 1) (pe_callB call_len (by rfl) B.len PySem.boot_len (pa_cons (pv 0) pa_nil)) (nomark _))
      (pss_cons (ps_if (pt_cmpR op_eq (pe_ix ix_str (pv 0) (pv 1) (fun _ _ => rfl)) pe_str (nomark _))
          (pss_cons (ps_aug (i := 1) sc_strat.nd rfl (Or.inl rfl) pe_int ip_add)
          (pss_one (ps_if (pt_cmpR op_ne (pe_slice C8.sl_txt (pv 0) (po_some (pv 1)) (po_some (pe_op op_add (pv 1) pe_int))) pe_str (nomark _)) (pss_one (ps_ret (pe_tup (pa_cons (pe_join pe_str (pv 2)) (pa_cons (pv 1) pa_nil))))) pss_nil))) pss_nil)
      (pss_cons (ps_expr (pe_bm PySem.F.plainAttrs_list PySem.F.slot_list_append PySem.F.type_list_append mt_append (pv 2) (pa_cons (pe_ix ix_str (pv 0) (pv 1) (fun _ _ => rfl)) pa_nil)))
      (pss_one (ps_aug (i := 1) sc_strat.nd rfl (Or.inl rfl) pe_int ip_add)))))
    (pss_one (ps_ret pe_non)))), ?_⟩
  refine ⟨(by decide : 0 ≤ sizeLine), fun L hL => ⟨_, rfl, _, _, rfl, rfl, ?_⟩⟩
  refine ⟨fun m σ H2 => ∃ (k : Nat) (acc : List Nat), m = cs.length + 1 - k ∧ k ≤ cs.length ∧ acc.length ≤ k ∧ σ = [some (.str (So cs)), some (.int (k : Nat)), some (.ref L)] ∧ H2 L = some (.lst (acc.map fun c => V.str (So [c]))) ∧ Same H H2 ∧ strL (cs.drop (i + 1)) [] (i + 1) false = strL (cs.drop k) acc k false, ⟨_, i + 1, [], rfl, by omega, by simp, rfl, upd_same, same_new hL _, rfl⟩, ?_⟩
  rintro m σ H2 ⟨k, acc, rfl, hk, ha, rfl, hL2, s2, ek⟩
  refine ⟨_, rfl, _, rfl, .str (So cs), cs.length, rfl, ⟨line10 (by show cs.length ≤ 10000; omega), rfl⟩, _, _, rfl, rfl, _, rfl, ?_⟩
  by_cases hlt : k < cs.length
  · rw [decide_eq_true (by omega : (k : Int) < (cs.length : Int))]
    have hc : cs[k]? = some (cs[k]'hlt) := List.getElem?_eq_getElem hlt
    have ed := drop_at hc
    refine iteT ⟨fun σ' H' => ∃ (k' : Nat) (acc' : List Nat), k < k' ∧ k' ≤ cs.length ∧ acc'.length ≤ k' ∧ σ' = [some (.str (So cs)), some (.int (k' : Nat)), some (.ref L)] ∧ H' L = some (.lst (acc'.map fun c => V.str (So [c]))) ∧ Same H H' ∧ strL (cs.drop (i + 1)) [] (i + 1) false = strL (cs.drop k') acc' k' false, fun σ' H' ⟨k', acc', h1, h2, h3, h4, h5, h6, h7⟩ => ⟨_, ?_, k', acc', rfl, h2, h3, h4, h5, h6, h7⟩, ?_⟩
    · omega
    have put : ∀ (c : Nat), (L2.upd H2 L (.lst ((acc.map fun c => V.str (So [c])) ++ [V.str (So [c])]))) L = some (.lst ((acc ++ [c]).map fun c => V.str (So [c]))) ∧ Same H (L2.upd H2 L (.lst ((acc.map fun c => V.str (So [c])) ++ [V.str (So [c])]))) := fun c =>
      ⟨by rw [upd_same, List.map_append]; rfl, fun b u e => by rw [upd_ne (ne_of_none e hL)]; exact s2 _ _ e⟩
    have hS : (So cs).length ≤ 10000 := by show cs.length ≤ 10000; omega
    have few : (acc.map fun c => V.str (So [c])).length < sizeLine := by rw [List.length_map]; exact Nat.lt_of_le_of_lt (show acc.length ≤ 10000 by omega) (show 10000 < sizeLine by decide)
    have hj : ((acc.map fun c => So [c]).map (·.length)).sum + (acc.map fun c => So [c]).length * (("" : Str)).length ≤ 16777216 := by
      have e : ∀ l : List Nat, ((l.map fun c => So [c]).map (·.length)).sum = l.length := fun l => by
        induction l with
        | nil => rfl
        | cons c r ih => simp only [List.map_cons, List.sum_cons, List.length_cons, ih]; show 1 + _ = _; omega
      rw [e, show (("" : Str)).length = 0 by decide +kernel]
      omega
    have hM : ((acc.map fun c => So [c]).map V.str) = acc.map fun c => V.str (So [c]) := by rw [List.map_map]; rfl
    have eJ : Txt.join "" (acc.map fun c => So [c]) = So acc := by rw [show ("" : Str) = So [] by decide +kernel]; exact join_one acc
    have done : (∀ (p : Addr) (H' : Hp), Same H H' → acc.length ≤ cs.length → H' p = some (.tup [.str (So acc), .int ((k + 1 : Nat) : Nat)]) → Q (.ref p) H') → ∀ p, H2 p = none → Q (.ref p) (L2.upd H2 p (.tup [.str (Txt.join "" (acc.map fun c => So [c])), .int ((k : Int) + 1)])) := fun q p hp => by
      rw [eJ]
      exact q p _ (s2.trans (same_new hp _)) (by omega) upd_same
    refine ⟨_, rfl, _, rfl, So cs, (k : Int), cs[k]'hlt, rfl, rfl, line10 hS, atI_nat hc, rfl, _, rfl, ?_⟩
    rw [ch_eq]
    by_cases e39 : cs[k]'hlt = 39
    · rw [decide_eq_true e39]
      refine iteT ⟨_, rfl, _, _, rfl, rfl, ?_⟩
      refine ⟨_, rfl, _, rfl, (k : Int) + 1, rfl, _, rfl, _, _, rfl, rfl, ?_⟩
      refine ⟨_, rfl, So cs, rfl, line10 hS, rfl, _, rfl, ?_⟩
      have es : Txt.slice (So cs) (some ((k : Int) + 1)) (some ((k : Int) + 1 + 1)) = So ((cs.drop (k + 1)).take 1) := by
        have z := slice_one (cs := cs) (k := k + 1) (by omega)
        rw [show (((k + 1 : Nat) : Nat) : Int) = (k : Int) + 1 by omega] at z
        exact z
      rw [es]
      have e1 : strL (cs.drop k) acc k false = strL (cs.drop (k + 1)) acc (k + 1) true := by
        rw [ed]
        show (if cs[k]'hlt = 39 then strL (cs.drop (k + 1)) acc (k + 1) true else _) = _
        rw [if_pos e39]
      cases h2 : cs[k + 1]? with
      | none =>
        have ed2 : cs.drop (k + 1) = [] := List.drop_eq_nil_of_le (List.getElem?_eq_none_iff.mp h2)
        rw [ek, e1, ed2] at q
        rw [ed2]
        have en : decide (V.str (So (([] : List Nat).take 1)) = V.str "'") = false := decide_eq_false (fun z => by
          have z2 := So_inj ((V.str.inj z).trans q39)
          cases z2)
        rw [en]
        exact iteT ⟨⟨_, rfl⟩, _, rfl, "", L, acc.map fun c => So [c], rfl, rfl, .inl (SqL.of (by rw [hM]; exact hL2)), hj, _, rfl, (by decide : 2 ≤ sizeLine), done q⟩
      | some c2 =>
        have hlt2 : k + 1 < cs.length := (List.getElem?_eq_some_iff.mp h2).1
        have ed2 := drop_at h2
        rw [ed2]
        have en : decide (V.str (So ((c2 :: cs.drop (k + 1 + 1)).take 1)) = V.str "'") = decide (c2 = 39) := ch_eq c2
        rw [en]
        by_cases e2 : c2 = 39
        · rw [decide_eq_true e2]
          refine iteF ⟨_, rfl, .inl ⟨rfl, _, SqL.of hL2⟩, _, rfl, _, rfl, So cs, (k : Int) + 1, c2, rfl, rfl, line10 hS, ?_, L, _, _, rfl, rfl, hL2, few, _, rfl, _, _, rfl, rfl, k + 2, acc ++ [c2], by omega, by omega, by rw [List.length_append]; simp only [List.length_singleton]; omega, ?_, (put _).1, (put _).2, ?_⟩
          · exact atI_nat (j := k + 1) h2
          · show [some (V.str (So cs)), some (V.int ((k : Int) + 1 + 1)), some (V.ref L)] = _
            rw [show ((k : Int) + 1 + 1) = ((k + 2 : Nat) : Int) by omega]
          · rw [ek, e1, ed2]
            show (if c2 = 39 then strL (cs.drop (k + 1 + 1)) (acc ++ [39]) (k + 1 + 1) false else _) = _
            rw [if_pos e2, e2]
        · rw [decide_eq_false e2]
          rw [ek, e1, ed2] at q
          have q : (match (if c2 = 39 then strL (cs.drop (k + 1 + 1)) (acc ++ [39]) (k + 1 + 1) false else some (acc, k + 1)) with
            | none => ∀ H', Same H H' → Q .non H'
            | some (s, e) => ∀ (p : Addr) (H' : Hp), Same H H' → s.length ≤ cs.length → H' p = some (.tup [.str (So s), .int (e : Nat)]) → Q (.ref p) H') := q
          rw [if_neg e2] at q
          exact iteT ⟨⟨_, rfl⟩, _, rfl, "", L, acc.map fun c => So [c], rfl, rfl, .inl (SqL.of (by rw [hM]; exact hL2)), hj, _, rfl, (by decide : 2 ≤ sizeLine), done q⟩
    · rw [decide_eq_false e39]
      refine iteF ⟨_, rfl, .inl ⟨rfl, _, SqL.of hL2⟩, _, rfl, _, rfl, So cs, (k : Int), cs[k]'hlt, rfl, rfl, line10 hS, atI_nat hc, L, _, _, rfl, rfl, hL2, few, _, rfl, _, _, rfl, rfl, k + 1, acc ++ [cs[k]'hlt], by omega, by omega, by rw [List.length_append]; simp only [List.length_singleton]; omega, rfl, (put _).1, (put _).2, ?_⟩
      rw [ek, ed]
      show (if cs[k]'hlt = 39 then strL (cs.drop (k + 1)) acc (k + 1) true else strL (cs.drop (k + 1)) (acc ++ [cs[k]'hlt]) (k + 1) false) = _
      rw [if_neg e39]
  · rw [decide_eq_false (by omega : ¬ (k : Int) < (cs.length : Int))]
    refine iteF ?_
    rw [ek, List.drop_eq_nil_of_le (by omega)] at q
    exact q _ s2
end
end Ask
namespace Ask
open PySem L2 PySem.Spec PyProof.Rows PySem.AskX LamX NdefX

theorem take_tw (p : Nat → Bool) : ∀ l : List Nat, l.take (l.takeWhile p).length = l.takeWhile p
  | [] => rfl
  | c :: r => by
    rw [List.takeWhile_cons]
    cases p c with
    | true => show c :: r.take (r.takeWhile p).length = c :: r.takeWhile p; rw [take_tw p r]
    | false => rfl
theorem slice_run {cs : List Nat} {j : Nat} (h : j ≤ cs.length) : Txt.slice (So cs) (some (j : Int)) (some ((endR cs j : Nat) : Int)) = So ((cs.drop j).takeWhile runC) := by
  have e := slice_both cs (i := j) (j := endR cs j) (by unfold endR; omega) h
  rw [e]
  unfold endR
  rw [show j + ((cs.drop j).takeWhile runC).length - j = ((cs.drop j).takeWhile runC).length by omega, take_tw]
theorem tw_len (p : Nat → Bool) (l : List Nat) : (l.takeWhile p).length ≤ l.length := (List.takeWhile_sublist p).length_le
theorem rt_new {H : Hp} {p : Addr} {u : V} {t : Tr} {o : HO} (hp : H p = none) (r : RtAt H u t) : RtAt (L2.upd H p o) u t := r.tups (Tups.of_same (same_new hp _))
section
variable {P : Program} {w : World} {K : PySem.W.Frag} {mg : Str → Option Value} {base : Heap} {f : Addr} {fd : FuncData}
abbrev spEndR : Sp := spPu fun vs v => ∃ (cs : List Nat) (i : Nat), vs = [.str (So cs), .int i] ∧ i ≤ cs.length ∧ cs.length ≤ 10000 ∧ v = .int (endR cs i : Nat)
abbrev okAll : List Nat → Nat → Prop := fun _ _ => True
theorem sc_strw : FnScope ["text", "place", "found"] ["text", "place"] (defScope sStringWord) := ⟨rfl, rfl, rfl, by decide +kernel, rfl, by decide +kernel, by decide +kernel⟩
theorem ok_strw (F : Fun K "string_word" "string_word" sStringWord f fd) (G : ScG K mg) (DS : Dn P w K mg base 1 "string_at" ["text", "place"] spStrAt) (DT : Dn P w K mg base 1 "is_text" ["thing"] spTx) : FnOk P w K mg base CX0 2 f fd ["text", "place"] (spWd strW okAll) := by
  refine F.ok sc_strw (fun vs H Q E ⟨_, _, e, _⟩ => by rw [e]; rfl) (fun cdv A outer s H vs Q E hr h => ?_)
  obtain ⟨cs, i, rfl, hi, hl, _, q⟩ := h
  obtain ⟨t1, g1⟩ := G.g.wrong
  obtain ⟨t2, g2⟩ := G.g.str
  refine ⟨_, pss_cons (ps_set (i := 2) sc_strw.nd rfl (Or.inl rfl) (pe_dn DS hr (by rfl) (pa_cons (pv 0) (pa_cons (pv 1) pa_nil))))
    (pss_cons (ps_if (pw_or (pt_cmpR op_isN (pv 2) pe_non (nomark _)) (pw_or1 (pt_not (pt_val (pe_dn DT hr (by rfl) (pa_cons (pe_ix (r := rIxT K) ix_tup (pv 2) pe_int (fun _ _ => rfl)) pa_nil)))))).pt (pss_one (ps_ret (pe_tup (pa_cons (pe_glob (v := .str "wrong") (by rfl) g1 ⟨_, rfl⟩) (pa_cons pe_non (pa_cons (pv 1) pa_nil)))))) pss_nil)
    (pss_one (ps_ret (pe_tup (pa_cons (pe_glob (v := .str "string") (by rfl) g2 ⟨_, rfl⟩) (pa_cons (pe_ix (r := rIxT K) ix_tup (pv 2) pe_int (fun _ _ => rfl)) (pa_cons (pe_ix (r := rIxT K) ix_tup (pv 2) pe_int (fun _ _ => rfl)) pa_nil))))))), ?_⟩
  have wr : strW cs i = wrongW → ∀ H1, Same H H1 → ∀ p, H1 p = none → Q (.ref p) (L2.upd H1 p (.tup [.str "wrong", .non, .int i])) := fun e H1 s1 p hp =>
    q p .non i _ (s1.trans (same_new hp _)) (by rw [e]; exact upd_same) (by rw [e]; exact .non) (fun n => absurd (by rw [e]; rfl) n)
  refine ⟨_, rfl, _, rfl, cs, i, rfl, hi, hl, ?_⟩
  cases e : strL (cs.drop (i + 1)) [] (i + 1) false with
  | none =>
    intro H1 s1
    refine ⟨_, rfl, rfl, true, rfl, iteT (iteT ⟨_, rfl, (by decide : 3 ≤ sizeLine), fun p hp => ?_⟩)⟩
    exact wr (by unfold strW; rw [e]) H1 s1 p hp
  | some x =>
    obtain ⟨s, en⟩ := x
    intro p0 H1 s1 hs hp0
    refine ⟨_, rfl, rfl, false, rfl, iteF ⟨_, rfl, p0, _, 0, _, rfl, rfl, SqT.of hp0, rfl, _, ⟨s, rfl, by omega, rfl⟩, fun H2 s2 => ⟨_, rfl, ?_⟩⟩⟩
    cases et : textN s with
    | false => exact iteT ⟨_, rfl, (by decide : 3 ≤ sizeLine), fun p hp => wr (by unfold strW; rw [e]; show (if textN s = true then _ else _) = _; rw [if_neg (Bool.eq_false_iff.mp et)]) H2 (s1.trans s2) p hp⟩
    | true =>
      have hp2 := s2 _ _ hp0
      have es : strW cs i = (.str, .str s, en) := by unfold strW; rw [e]; show (if textN s = true then _ else _) = _; rw [if_pos et]
      refine iteF ⟨_, rfl, p0, _, 0, _, rfl, rfl, SqT.of hp2, rfl, _, rfl, p0, _, 1, _, rfl, rfl, SqT.of hp2, rfl, (by decide : 3 ≤ sizeLine), fun p hp => ?_⟩
      exact q p _ _ _ ((s1.trans s2).trans (same_new hp _)) (by rw [es]; exact upd_same) (by rw [es]; exact .str s) (fun _ => by rw [es])
theorem sc_parw : FnScope ["text", "place", "end", "name"] ["text", "place"] (defScope sParameterWord) := ⟨rfl, rfl, rfl, by decide +kernel, rfl, by decide +kernel, by decide +kernel⟩
theorem ok_parw (F : Fun K "parameter_word" "parameter_word" sParameterWord f fd) (G : ScG K mg) (DE : Dn P w K mg base 2 "end_of_run" ["text", "place"] spEndR) (DN : Dn P w K mg base 1 "is_name" ["thing"] spNm) : FnOk P w K mg base CX0 3 f fd ["text", "place"] (spWd parW okAll) := by
  refine F.ok sc_parw (fun vs H Q E ⟨_, _, e, _⟩ => by rw [e]; rfl) (fun cdv A outer s H vs Q E hr h => ?_)
  obtain ⟨cs, i, rfl, hi, hl, _, q⟩ := h
  obtain ⟨t1, g1⟩ := G.g.wrong
  obtain ⟨t2, g2⟩ := G.g.par
  have hr1 : Room 1 _ := hr.mono (by decide : 1 ≤ 2)
  refine ⟨_, pss_cons (ps_set (i := 2) sc_parw.nd rfl (Or.inl rfl) (pe_dn DE hr (by rfl) (pa_cons (pv 0) (pa_cons (pe_op op_add (pv 1) pe_int) pa_nil))))
    (pss_cons (ps_set (i := 3) sc_parw.nd rfl (Or.inl rfl) (pe_slice C8.sl_txt (pv 0) (po_some (pe_op op_add (pv 1) pe_int)) (po_some (pv 2))))
    (pss_one (ps_ret (pe_ifExp (pt_val (pe_dn DN hr1 (by rfl) (pa_cons (pv 3) pa_nil))) (pe_tup (pa_cons (pe_glob (v := .str "parameter") (by rfl) g2 ⟨_, rfl⟩) (pa_cons (pv 3) (pa_cons (pv 2) pa_nil)))) (pe_tup (pa_cons (pe_glob (v := .str "wrong") (by rfl) g1 ⟨_, rfl⟩) (pa_cons pe_non (pa_cons (pv 1) pa_nil)))))))), ?_⟩
  have hS : (So cs).length ≤ 10000 := by show cs.length ≤ 10000; omega
  refine ⟨_, rfl, _, rfl, _, _, rfl, rfl, _, ⟨cs, i + 1, rfl, by omega, by omega, rfl⟩, fun H1 s1 => ?_⟩
  refine ⟨_, rfl, _, rfl, _, _, rfl, rfl, _, rfl, _, rfl, _, rfl, So cs, rfl, line10 hS, ?_⟩
  have es : Txt.slice (So cs) (some ((i : Int) + 1)) (some ((endR cs (i + 1) : Nat) : Int)) = So ((cs.drop (i + 1)).takeWhile runC) := slice_run (j := i + 1) (by omega)
  rw [es]
  have ln : ((cs.drop (i + 1)).takeWhile runC).length ≤ 10000 := Nat.le_trans (tw_len _ _) (by rw [List.length_drop]; omega)
  refine ⟨_, rfl, _, ⟨_, rfl, ln, rfl⟩, fun H2 s2 => ⟨_, rfl, ?_⟩⟩
  cases en : nameN ((cs.drop (i + 1)).takeWhile runC) with
  | true =>
    have ew : parW cs i = (.par, .str ((cs.drop (i + 1)).takeWhile runC), endR cs (i + 1)) := by unfold parW; rw [if_pos en]
    refine iteT ⟨_, rfl, _, rfl, (by decide : 3 ≤ sizeLine), fun p hp => ?_⟩
    exact q p _ _ _ ((s1.trans s2).trans (same_new hp _)) (by rw [ew]; exact upd_same) (by rw [ew]; exact .str _) (fun _ => by rw [ew])
  | false =>
    have ew : parW cs i = wrongW := by unfold parW; rw [if_neg (Bool.eq_false_iff.mp en)]
    refine iteF ⟨_, rfl, (by decide : 3 ≤ sizeLine), fun p hp => ?_⟩
    exact q p .non i _ ((s1.trans s2).trans (same_new hp _)) (by rw [ew]; exact upd_same) (by rw [ew]; exact .non) (fun n => absurd (by rw [ew]; rfl) n)
end
end Ask
namespace Ask
open PySem L2 PySem.Spec PyProof.Rows PySem.AskX LamX NdefX

/-! ### word_at -/
section
variable {P : Program} {w : World} {K : PySem.W.Frag} {mg : Str → Option Value} {base : Heap} {f : Addr} {fd : FuncData}
abbrev n_word : List Str := ["text", "place", "end", "kind", "said", "sign"]
theorem sc_word : FnScope n_word ["text", "place"] (defScope sWordAt) := ⟨rfl, rfl, rfl, by decide +kernel, rfl, by decide +kernel, by decide +kernel⟩
theorem q58 : (":" : Str) = So [58] := by decide +kernel
theorem ch_eq2 (c : Nat) : decide (V.str ⟨#[c]⟩ = V.str ":") = decide (c = 58) := decide_eq_decide.mpr ⟨fun z => by
  have z2 := So_inj ((V.str.inj z : (⟨#[c]⟩ : Str) = ":").trans q58)
  exact List.head_eq_of_cons_eq z2, fun z => by rw [z, q58]⟩
theorem tw_ne {cs : List Nat} {i c : Nat} (h : cs[i]? = some c) (r : runC c = true) : (cs.drop i).takeWhile runC ≠ [] := by
  rw [drop_at h, List.takeWhile_cons, r]
  exact List.cons_ne_nil _ _
theorem ok_word (F : Fun K "word_at" "word_at" sWordAt f fd) (B : Blt mg) (G : ScG K mg) (DR : Dn P w K mg base 1 "is_run_part" ["character"] (spPu fun vs v => ∃ c, vs = [.str (So [c])] ∧ v = .bl (runC c))) (DE : Dn P w K mg base 2 "end_of_run" ["text", "place"] spEndR)
    (DW : Dn P w K mg base 2 "run_word" ["run"] spRunW) (DS : Dn P w K mg base 2 "string_word" ["text", "place"] (spWd strW okAll)) (DP : Dn P w K mg base 3 "parameter_word" ["text", "place"] (spWd parW okAll)) : FnOk P w K mg base CX0 4 f fd ["text", "place"] (spWd wordW okAll) := by
  refine F.ok sc_word (fun vs H Q E ⟨_, _, e, _⟩ => by rw [e]; rfl) (fun cdv A outer s H vs Q E hr h => ?_)
  obtain ⟨cs, i, rfl, hi, hl, _, q⟩ := h
  obtain ⟨t1, g1⟩ := G.g.wrong
  obtain ⟨t2, g2⟩ := G.g.word
  obtain ⟨sg, hsg, ssg⟩ := G.signs
  have hr1 : Room 1 _ := hr.mono (by decide : 1 ≤ 3)
  have hr2 : Room 2 _ := hr.mono (by decide : 2 ≤ 3)
  refine ⟨_, pss_cons (ps_if (pt_val (pe_dn DR hr1 (by rfl) (pa_cons (pe_ix ix_str (pv 0) (pv 1) (fun _ _ => rfl)) pa_nil)))
      (pss_cons (ps_set (i := 2) sc_word.nd rfl (Or.inl rfl) (pe_dn DE hr2 (by rfl) (pa_cons (pv 0) (pa_cons (pv 1) pa_nil))))
      (pss_cons (ps_asg (pe_dn DW hr2 (by rfl) (pa_cons (pe_slice C8.sl_txt (pv 0) (po_some (pv 1)) (po_some (pv 2))) pa_nil)) (pg_tup rfl (pgs_cons (pg_name (i := 3) sc_word.nd rfl (Or.inl rfl)) (pgs_cons (pg_name (i := 4) sc_word.nd rfl (Or.inl rfl)) pgs_nil))))
      (pss_one (ps_ret (pe_tup (pa_cons (pv 3) (pa_cons (pv 4) (pa_cons (pv 2) pa_nil)))))))) pss_nil)
    (pss_cons (ps_if (pt_cmpR op_eq (pe_ix ix_str (pv 0) (pv 1) (fun _ _ => rfl)) pe_str (nomark _)) (pss_one (ps_ret (pe_dn DS hr2 (by rfl) (pa_cons (pv 0) (pa_cons (pv 1) pa_nil))))) pss_nil)
    (pss_cons (ps_if (pt_cmpR op_eq (pe_ix ix_str (pv 0) (pv 1) (fun _ _ => rfl)) pe_str (nomark _)) (pss_one (ps_ret (pe_dn DP hr (by rfl) (pa_cons (pv 0) (pa_cons (pv 1) pa_nil))))) pss_nil)
    (pss_cons (ps_for PassesOwn.never rfl (pi_tup (pe_glob (v := .ref sg) (by rfl) hsg rfl)) (pg_name (i := 5) sc_word.nd rfl (Or.inl rfl))
      (pss_one (ps_if (pt_cmpR op_eq (pe_slice C8.sl_txt (pv 0) (po_some (pv 1)) (po_some (pe_op op_add (pv 1) (pe_callB call_len (by rfl) B.len PySem.boot_len (pa_cons (pv 5) pa_nil))))) (pv 5) (nomark _)) (pss_one (ps_ret (pe_tup (pa_cons (pe_glob (v := .str "word") (by rfl) g2 ⟨_, rfl⟩) (pa_cons (pv 5) (pa_cons (pe_op op_add (pv 1) (pe_callB call_len (by rfl) B.len PySem.boot_len (pa_cons (pv 5) pa_nil))) pa_nil)))))) pss_nil)))
    (pss_one (ps_ret (pe_tup (pa_cons (pe_glob (v := .str "wrong") (by rfl) g1 ⟨_, rfl⟩) (pa_cons pe_non (pa_cons (pv 1) pa_nil))))))))), ?_⟩
  have hS : (So cs).length ≤ 10000 := by show cs.length ≤ 10000; omega
  obtain ⟨c, hc⟩ : ∃ c, cs[i]? = some c := ⟨_, List.getElem?_eq_getElem hi⟩
  refine ⟨_, rfl, _, rfl, So cs, i, c, rfl, rfl, line10 hS, atI_nat hc, _, ⟨c, rfl, rfl⟩, fun H1 s1 => ⟨_, rfl, ?_⟩⟩
  cases er : runC c with
  | true =>
    have ew : wordW cs i = ((runWd ((cs.drop i).takeWhile runC)).1, (runWd ((cs.drop i).takeWhile runC)).2, endR cs i) := by unfold wordW; rw [hc]; show (if runC c = true then _ else _) = _; rw [if_pos er]
    rw [ew] at q
    refine iteT ⟨_, rfl, _, rfl, _, ⟨cs, i, rfl, by omega, by omega, rfl⟩, fun H2 s2 => ?_⟩
    refine ⟨_, rfl, _, rfl, _, rfl, _, rfl, _, rfl, So cs, rfl, line10 hS, ?_⟩
    rw [slice_run (by omega)]
    refine ⟨_, rfl, tw_ne hc er, Nat.le_trans (tw_len _ _) (by rw [List.length_drop]; omega), fun p0 u H3 s3 hp0 hu => ?_⟩
    refine ⟨p0, _, rfl, SqT.of hp0, rfl, _, _, rfl, _, _, rfl, rfl, _, rfl, _, rfl, _, rfl, (by decide : 3 ≤ sizeLine), fun p hp => ?_⟩
    exact q p _ _ _ (((s1.trans s2).trans s3).trans (same_new hp _)) upd_same (rt_new hp hu) (fun _ => rfl)
  | false =>
    refine iteF ⟨_, rfl, _, rfl, So cs, i, c, rfl, rfl, line10 hS, atI_nat hc, rfl, _, rfl, ?_⟩
    rw [ch_eq]
    by_cases e39 : c = 39
    · have ew : wordW cs i = strW cs i := by unfold wordW; rw [hc]; show (if runC c = true then _ else if c = 39 then _ else _) = _; rw [if_neg (Bool.eq_false_iff.mp er), if_pos e39]
      rw [ew] at q
      rw [decide_eq_true e39]
      exact iteT ⟨_, rfl, _, rfl, cs, i, rfl, hi, hl, trivial, fun p u e H' s' => q p u e H' (s1.trans s')⟩
    · rw [decide_eq_false e39]
      refine iteF ⟨_, rfl, _, rfl, So cs, i, c, rfl, rfl, line10 hS, atI_nat hc, rfl, _, rfl, ?_⟩
      rw [ch_eq2]
      by_cases e58 : c = 58
      · have ew : wordW cs i = parW cs i := by unfold wordW; rw [hc]; show (if runC c = true then _ else if c = 39 then _ else if c = 58 then _ else _) = _; rw [if_neg (Bool.eq_false_iff.mp er), if_neg e39, if_pos e58]
        rw [ew] at q
        rw [decide_eq_true e58]
        exact iteT ⟨_, rfl, _, rfl, cs, i, rfl, hi, hl, trivial, fun p u e H' s' => q p u e H' (s1.trans s')⟩
      · have ew : wordW cs i = signW cs i := by unfold wordW; rw [hc]; show (if runC c = true then _ else if c = 39 then _ else if c = 58 then _ else _) = _; rw [if_neg (Bool.eq_false_iff.mp er), if_neg e39, if_neg e58]
        rw [ew] at q
        rw [decide_eq_false e58]
        refine iteF ⟨sg, rfl, ⟨_, ssg _⟩, ?_⟩
        have sl : ∀ s : List Nat, Txt.slice (So cs) (some (i : Int)) (some ((i : Int) + (s.length : Int))) = So ((cs.drop i).take s.length) := fun s => by
          have z := slice_both cs (i := i) (j := i + s.length) (by omega) (by omega)
          rw [show i + s.length - i = s.length by omega] at z
          exact z
        have small : ∀ s ∈ sigN, s.length ≤ 2 := by decide +kernel
        refine for_tup (xs := sigN.map fun z => V.str (So z)) (fun j σ H2 => (∃ x, σ = [some (.str (So cs)), some (.int i), none, none, none, x]) ∧ Same H H2 ∧ sigN.find? (fun s => decide ((cs.drop i).take s.length = s)) = (sigN.drop j).find? (fun s => decide ((cs.drop i).take s.length = s))) ⟨⟨none, rfl⟩, s1, rfl⟩ (fun j σ H2 _ _ => ssg _) (fun j x σ H2 hx R => ?_) (fun σ H2 R => ?_)
        · obtain ⟨⟨x0, rfl⟩, s2, ef⟩ := R
          rw [List.getElem?_map] at hx
          obtain ⟨s, hs, rfl⟩ := Option.map_eq_some_iff.mp hx
          have ls := small s (List.mem_of_getElem? hs)
          have l2 : (So s).length ≤ 10000 := by show s.length ≤ 10000; omega
          have ed : sigN.drop j = s :: sigN.drop (j + 1) := by rw [List.drop_eq_getElem?_toList_append, hs]; rfl
          rw [ed, List.find?_cons] at ef
          refine ⟨_, rfl, _, rfl, _, rfl, _, rfl, _, rfl, .str (So s), s.length, rfl, ⟨line10 l2, rfl⟩, _, _, rfl, rfl, _, rfl, So cs, rfl, line10 hS, ?_⟩
          rw [sl]
          refine ⟨_, rfl, rfl, _, rfl, ?_⟩
          rw [show decide (V.str (So ((cs.drop i).take s.length)) = V.str (So s)) = decide ((cs.drop i).take s.length = s) from decide_eq_decide.mpr ⟨fun z => So_inj (V.str.inj z), fun z => by rw [z]⟩]
          cases ep : decide ((cs.drop i).take s.length = s) with
          | true =>
            rw [ep] at ef
            have es : signW cs i = (.word, .str s, i + s.length) := by unfold signW; rw [ef]
            rw [es] at q
            refine iteT ⟨_, rfl, _, rfl, _, rfl, .str (So s), s.length, rfl, ⟨line10 l2, rfl⟩, _, _, rfl, rfl, (by decide : 3 ≤ sizeLine), fun p hp => ?_⟩
            exact q p _ _ _ (s2.trans (same_new hp _)) upd_same (.str s) (fun _ => rfl)
          | false =>
            rw [ep] at ef
            exact iteF ⟨⟨_, rfl⟩, s2, ef⟩
        · obtain ⟨⟨x0, rfl⟩, s2, ef⟩ := R
          have ef : sigN.find? (fun s => decide ((cs.drop i).take s.length = s)) = none := by
            rw [ef, show sigN.drop (sigN.map fun z => V.str (So z)).length = [] from List.drop_eq_nil_of_le (by rw [List.length_map]; exact Nat.le_refl _)]
            rfl
          have es : signW cs i = wrongW := by unfold signW; rw [ef]
          rw [es] at q
          refine ⟨_, rfl, (by decide : 3 ≤ sizeLine), fun p hp => ?_⟩
          exact q p .non i _ (s2.trans (same_new hp _)) upd_same .non (fun n => absurd rfl n)
end
end Ask
namespace Ask
open PySem L2 PySem.Spec PyProof.Rows PySem.AskX LamX NdefX

/-! ### words_of -/
/-- the words from a place on; none: not in time -/
def scanW (cs : List Nat) : Nat → Nat → Option (List Wd)
  | 0, _ => none
  | n + 1, i => match cs[i]? with
    | none => some [⟨.fin, .non, cs.length⟩]
    | some c => if c = 32 ∨ c = 10 then scanW cs n (i + 1) else
      if (wordW cs i).1 = .wrong then some [⟨.wrong, (wordW cs i).2.1, i⟩] else (scanW cs n (wordW cs i).2.2).map fun ws => ⟨(wordW cs i).1, (wordW cs i).2.1, i⟩ :: ws
theorem scan_len {cs : List Nat} : ∀ {n i : Nat} {ws : List Wd}, scanW cs n i = some ws → ws.length ≤ n
  | 0, _, _, h => by cases h
  | n + 1, i, ws, h => by
    unfold scanW at h
    cases e : cs[i]? with
    | none => rw [e] at h; cases h; simp
    | some c =>
      rw [e] at h
      have h : (if c = 32 ∨ c = 10 then scanW cs n (i + 1) else if (wordW cs i).1 = .wrong then some [⟨.wrong, (wordW cs i).2.1, i⟩] else (scanW cs n (wordW cs i).2.2).map fun ws => ⟨(wordW cs i).1, (wordW cs i).2.1, i⟩ :: ws) = some ws := h
      split at h
      · have := scan_len h; omega
      · split at h
        · cases h; simp
        · obtain ⟨us, e1, rfl⟩ := Option.map_eq_some_iff.mp h
          have := scan_len e1
          simp only [List.length_cons]
          omega
/-- a word says a text only if it is of the kind word -/
theorem wordW_says {cs : List Nat} {i : Nat} (h : (wordW cs i).1 = .word) : ∃ l, (wordW cs i).2.1 = .str l := by
  unfold wordW at h ⊢
  cases e : cs[i]? with
  | none => rw [e] at h; cases h
  | some c =>
    rw [e] at h
    dsimp only at h ⊢
    by_cases h1 : runC c = true
    · rw [if_pos h1] at h ⊢
      dsimp only at h ⊢
      unfold runWd at h ⊢
      split at h
      · rename_i m; rw [if_pos m]; exact ⟨_, rfl⟩
      · split at h
        · cases h
        · split at h <;> cases h
    · rw [if_neg h1] at h ⊢
      by_cases h2 : c = 39
      · rw [if_pos h2] at h
        unfold strW at h
        split at h
        · split at h <;> cases h
        · cases h
      · rw [if_neg h2] at h ⊢
        by_cases h3 : c = 58
        · rw [if_pos h3] at h
          unfold parW at h
          split at h <;> cases h
        · rw [if_neg h3] at h ⊢
          unfold signW at h ⊢
          split at h
          · exact ⟨_, rfl⟩
          · cases h
def spWords : Sp := fun vs H Q _ => ∃ (cs : List Nat) (ws : List Wd), vs = [.str (So cs)] ∧ cs.length ≤ 9999 ∧ scanW cs (cs.length + 1) 0 = some ws ∧ ∀ (L : Addr) (us : List V) (H' : Hp), Same H H' → H L = none → H' L = some (.lst us) → WdsAt H' us ws → Q (.ref L) H'
theorem WdsAt.snoc {H : Hp} : ∀ {vs : List V} {ws : List Wd} {v : V} {x : Wd}, WdsAt H vs ws → WdAt H v x → WdsAt H (vs ++ [v]) (ws ++ [x])
  | [], [], _, _, _, h => ⟨h, trivial⟩
  | _ :: _, _ :: _, _, _, r, h => ⟨r.1, WdsAt.snoc r.2 h⟩
  | [], _ :: _, _, _, r, _ => r.elim
  | _ :: _, [], _, _, r, _ => r.elim
section
variable {P : Program} {w : World} {K : PySem.W.Frag} {mg : Str → Option Value} {base : Heap} {f : Addr} {fd : FuncData}
abbrev n_words : List Str := ["text", "words", "place", "kind", "said", "end"]
theorem sc_words : FnScope n_words ["text"] (defScope sWordsOf) := ⟨rfl, rfl, rfl, by decide +kernel, rfl, by decide +kernel, by decide +kernel⟩
theorem q_blank : (" \n" : Str).cps.toList = [32, 10] := by decide +kernel
theorem ok_words (F : Fun K "words_of" "words_of" sWordsOf f fd) (B : Blt mg) (G : ScG K mg) (DW : Dn P w K mg base 4 "word_at" ["text", "place"] (spWd wordW okAll)) : FnOk P w K mg base CX0 5 f fd ["text"] spWords := by
  refine F.ok sc_words (fun vs H Q E ⟨_, _, e, _⟩ => by rw [e]; rfl) (fun cdv A outer s H vs Q E hr h => ?_)
  obtain ⟨cs, ws, rfl, hl, hw, q⟩ := h
  obtain ⟨t1, g1⟩ := G.g.wrong
  obtain ⟨t2, g2⟩ := G.g.fin
  have hS : (So cs).length ≤ 10000 := by show cs.length ≤ 10000; omega
  refine ⟨_, pss_cons (ps_set (i := 1) sc_words.nd rfl (Or.inl rfl) (pe_lst pa_nil))
    (pss_cons (ps_set (i := 2) sc_words.nd rfl (Or.inl rfl) pe_int)
    (pss_cons (ps_while PassesOwn.never (pt_cmpR op_lt (pv 2) (pe_callB call_len (by rfl) B.len PySem.boot_len (pa_cons (pv 0) pa_nil)) (nomark _))
      (pss_cons (ps_if (pt_cmpR op_in_sign (pe_ix ix_str (pv 0) (pv 2) (fun _ _ => rfl)) pe_str (by rfl)) (pss_cons (ps_aug (i := 2) sc_words.nd rfl (Or.inl rfl) pe_int ip_add) (pss_one ps_continue)) pss_nil)
      (pss_cons (ps_asg (pe_dn DW hr (by rfl) (pa_cons (pv 0) (pa_cons (pv 2) pa_nil))) (pg_tup rfl (pgs_cons (pg_name (i := 3) sc_words.nd rfl (Or.inl rfl)) (pgs_cons (pg_name (i := 4) sc_words.nd rfl (Or.inl rfl)) (pgs_cons (pg_name (i := 5) sc_words.nd rfl (Or.inl rfl)) pgs_nil)))))
      (pss_cons (ps_expr (pe_bm PySem.F.plainAttrs_list PySem.F.slot_list_append PySem.F.type_list_append mt_append (pv 1) (pa_cons (pe_tup (pa_cons (pv 3) (pa_cons (pv 4) (pa_cons (pv 2) pa_nil)))) pa_nil)))
      (pss_cons (ps_if (pt_cmpR op_eq (pv 3) (pe_glob (v := .str "wrong") (by rfl) g1 ⟨_, rfl⟩) (nomark _)) (pss_one (ps_ret (pv 1))) pss_nil)
      (pss_one (ps_set (i := 2) sc_words.nd rfl (Or.inl rfl) (pv 5))))))))
    (pss_cons (ps_expr (pe_bm PySem.F.plainAttrs_list PySem.F.slot_list_append PySem.F.type_list_append mt_append (pv 1) (pa_cons (pe_tup (pa_cons (pe_glob (v := .str "end") (by rfl) g2 ⟨_, rfl⟩) (pa_cons pe_non (pa_cons (pe_callB call_len (by rfl) B.len PySem.boot_len (pa_cons (pv 0) pa_nil)) pa_nil)))) pa_nil)))
    (pss_one (ps_ret (pv 1)))))), ?_⟩
  refine ⟨(by decide : 0 ≤ sizeLine), fun L hL => ?_⟩
  have few : ∀ {us : List V} {xs : List Wd} {H2 : Hp}, WdsAt H2 us xs → xs.length ≤ 10000 → us.length < sizeLine := fun h l => by
    rw [h.len]
    exact Nat.lt_of_le_of_lt l (by decide)
  have put : ∀ {H2 : Hp} {us : List V} {xs : List Wd} {p : Addr} {k : Kd} {u : V} {t : Tr} {i : Nat}, Same H H2 → H2 L = some (.lst us) → WdsAt H2 us xs → H2 p = none → RtAt H2 u t → (k = .word → ∃ l, t = .str l) →
      (L2.upd H2 p (.tup [.str k.txt, u, .int i])) L = some (.lst us) ∧ ∀ H3, H3 = L2.upd (L2.upd H2 p (.tup [.str k.txt, u, .int i])) L (.lst (us ++ [.ref p])) → Same H H3 ∧ H3 L = some (.lst (us ++ [.ref p])) ∧ WdsAt H3 (us ++ [.ref p]) (xs ++ [⟨k, t, i⟩]) := by
    intro H2 us xs p k u t i s2 h1 h2 hp hu hk
    have s3 := same_new hp (.tup [.str k.txt, u, .int i])
    have hL3 := s3 _ _ h1
    refine ⟨hL3, fun H3 e => ?_⟩
    subst e
    have tu : Tups (L2.upd H2 p (.tup [.str k.txt, u, .int i])) (L2.upd (L2.upd H2 p (.tup [.str k.txt, u, .int i])) L (.lst (us ++ [.ref p]))) := fun a b e => by
      rw [upd_ne (fun z => by rw [z, hL3] at e; cases e)]
      exact e
    have tu2 : Tups H2 _ := (Tups.of_same s3).trans tu
    refine ⟨fun b o e => ?_, upd_same, WdsAt.snoc (h2.tups tu2) ⟨p, u, rfl, tu _ _ upd_same, hu.tups tu2, hk⟩⟩
    rw [upd_ne (ne_of_none e hL)]
    exact s3 _ _ (s2 _ _ e)
  refine ⟨fun m σ H2 => ∃ (k : Nat) (us : List V) (dn rest : List Wd) (x y z : Option V), scanW cs m k = some rest ∧ ws = dn ++ rest ∧ σ = [some (.str (So cs)), some (.ref L), some (.int (k : Nat)), x, y, z] ∧ H2 L = some (.lst us) ∧ WdsAt H2 us dn ∧ Same H H2 ∧ dn.length + m ≤ cs.length + 1, ⟨_, 0, [], [], ws, none, none, none, hw, rfl, rfl, upd_same, trivial, same_new hL _, by simp⟩, ?_⟩
  rintro m σ H2 ⟨k, us, dn, rest, x, y, z, hs, ew, rfl, hL2, hd, s2, hm⟩
  cases m with
  | zero => cases hs
  | succ n =>
  unfold scanW at hs
  refine ⟨_, rfl, _, rfl, .str (So cs), cs.length, rfl, ⟨line10 hS, rfl⟩, _, _, rfl, rfl, _, rfl, ?_⟩
  cases hc : cs[k]? with
  | none =>
    rw [hc] at hs
    have hs : some [(⟨.fin, .non, cs.length⟩ : Wd)] = some rest := hs
    cases hs
    have hk : cs.length ≤ k := List.getElem?_eq_none_iff.mp hc
    rw [decide_eq_false (by omega : ¬ (k : Int) < (cs.length : Int))]
    refine iteF ⟨_, rfl, .inl ⟨rfl, _, SqL.of hL2⟩, _, rfl, .str (So cs), cs.length, rfl, ⟨line10 hS, rfl⟩, (by decide : 3 ≤ sizeLine), fun p hp => ?_⟩
    obtain ⟨h1, h2⟩ := put (k := .fin) (i := cs.length) s2 hL2 hd hp .non (fun e => nomatch e)
    obtain ⟨a1, a2, a3⟩ := h2 _ rfl
    refine ⟨L, us, .ref p, rfl, rfl, h1, few hd (by omega), _, rfl, ?_⟩
    rw [ew] at q
    exact q L _ _ a1 hL a2 a3
  | some c =>
    rw [hc] at hs
    have hlt : k < cs.length := (List.getElem?_eq_some_iff.mp hc).1
    have hs : (if c = 32 ∨ c = 10 then scanW cs n (k + 1) else if (wordW cs k).1 = .wrong then some [⟨.wrong, (wordW cs k).2.1, k⟩] else (scanW cs n (wordW cs k).2.2).map fun ws => ⟨(wordW cs k).1, (wordW cs k).2.1, k⟩ :: ws) = some rest := hs
    rw [decide_eq_true (by omega : (k : Int) < (cs.length : Int))]
    refine iteT ⟨fun σ' H' => ∃ (k' : Nat) (us : List V) (dn rest : List Wd) (x y z : Option V), scanW cs n k' = some rest ∧ ws = dn ++ rest ∧ σ' = [some (.str (So cs)), some (.ref L), some (.int (k' : Nat)), x, y, z] ∧ H' L = some (.lst us) ∧ WdsAt H' us dn ∧ Same H H' ∧ dn.length + n ≤ cs.length + 1, fun σ' H' w => ⟨n, Nat.lt_succ_self n, w⟩, ?_⟩
    refine ⟨_, rfl, _, rfl, So cs, k, c, rfl, rfl, line10 hS, atI_nat hc, c, " \n", rfl, rfl, _, rfl, ?_⟩
    rw [q_blank]
    by_cases hb : c = 32 ∨ c = 10
    · rw [if_pos hb] at hs
      rw [decide_eq_true (by simpa using hb)]
      exact iteT ⟨_, rfl, _, _, rfl, rfl, k + 1, us, dn, rest, x, y, z, hs, ew, rfl, hL2, hd, s2, by omega⟩
    · rw [if_neg hb] at hs
      rw [decide_eq_false (by simpa using hb)]
      refine iteF ⟨_, rfl, _, rfl, cs, k, rfl, hlt, hl, trivial, fun p0 u e H3 s3 hp0 hu he => ?_⟩
      refine ⟨p0, _, rfl, SqT.of hp0, rfl, _, _, rfl, _, _, rfl, _, _, rfl, rfl, ?_⟩
      refine ⟨_, rfl, .inl ⟨rfl, _, SqL.of (s3 _ _ hL2)⟩, _, rfl, _, rfl, _, rfl, (by decide : 3 ≤ sizeLine), fun p hp => ?_⟩
      have hd3 := hd.tups (Tups.of_same s3)
      obtain ⟨h1, h2⟩ := put (k := (wordW cs k).1) (i := k) (s2.trans s3) (s3 _ _ hL2) hd3 hp hu (fun e => wordW_says e)
      obtain ⟨a1, a2, a3⟩ := h2 _ rfl
      refine ⟨L, us, .ref p, rfl, rfl, h1, few hd (by omega), ?_⟩
      have ek : decide (V.str (wordW cs k).1.txt = V.str "wrong") = decide ((wordW cs k).1 = .wrong) := kd_eq _ .wrong
      refine ⟨_, rfl, rfl, _, rfl, ?_⟩
      rw [ek]
      by_cases hwr : (wordW cs k).1 = .wrong
      · rw [if_pos hwr] at hs
        cases hs
        rw [decide_eq_true hwr]
        refine iteT ⟨_, rfl, ?_⟩
        have e3 : (⟨.wrong, (wordW cs k).2.1, k⟩ : Wd) = ⟨(wordW cs k).1, (wordW cs k).2.1, k⟩ := by rw [hwr]
        rw [ew, e3] at q
        exact q L _ _ a1 hL a2 a3
      · rw [if_neg hwr] at hs
        obtain ⟨rs, e1, rfl⟩ := Option.map_eq_some_iff.mp hs
        rw [decide_eq_false hwr]
        have ee := he hwr
        subst ee
        exact iteF ⟨_, rfl, (wordW cs k).2.2, _, dn ++ [⟨(wordW cs k).1, (wordW cs k).2.1, k⟩], rs, _, _, _, e1, by rw [ew, List.append_assoc]; rfl, rfl, a2, a3, a1, by rw [List.length_append]; simp only [List.length_singleton]; omega⟩
end
end Ask
namespace Ask
open PySem L2 PySem.Spec PyProof.Rows PySem.AskX LamX NdefX

/-! ### Cursor.__init__, Cursor(text), read_question -/
def spCurI (CC : Addr) : Sp := fun vs H Q _ => ∃ (c dx : Addr) (cs : List Nat) (ws : List Wd), vs = [.ref c, .str (So cs)] ∧ H c = some (.ins CC dx []) ∧ cs.length ≤ 9999 ∧ scanW cs (cs.length + 1) 0 = some ws ∧
  ∀ H', (∀ b o, H b = some o → b ≠ c → H' b = some o) → CurAt CC H' c ws 0 → Q .non H'
structure MkCur (P : Program) (w : World) (K : PySem.W.Frag) (mg : Str → Option Value) (base : Heap) (CC : Addr) : Prop where
  ex : ∃ (f : Addr) (fd : FuncData), Mk K CC f ∧ mg "Cursor" = some (.ref CC) ∧ Binds K fd ["self", "text"] [] ∧ FnOk P w K mg base CX0 6 f fd ["self", "text"] (spCurI CC)
/-- a text's question, or the place where it stops being one -/
def readQ (cs : List Nat) : Rs Tr := match scanW cs (cs.length + 1) 0 with
  | some ws => rQuestion ws 0
  | none => .stuck
def LetsQ (CN : Addr) (H : Hp) (E : XK) (p : Nat) : Prop := ∀ dx H', Same H H' → H' dx = some (.xd [(("place" : Str), .int (p : Nat))]) → E (.ref CN) (some dx) H'
def spQ (K : PySem.W.Frag) (CN : Addr) : Sp := fun vs H Q E => (∃ cs : List Nat, vs = [.str (So cs)] ∧ cs.length ≤ 9999 ∧ (readQ cs).to (fun t _ _ => ∀ v H', Same H H' → RtAt H' v t → Q v H') (LetsQ CN H E)) ∨
  (∃ v d, vs = [v] ∧ Dx K H v d ∧ isStr d = false ∧ LetsQ CN H E 0)
section
variable {P : Program} {w : World} {K : PySem.W.Frag} {mg : Str → Option Value} {base : Heap} {CC CN : Addr} {f : Addr} {fd : FuncData}
theorem sc_curI : FnScope ["self", "text"] ["self", "text"] (defScope sCurI) := ⟨rfl, rfl, rfl, by decide +kernel, rfl, by decide +kernel, by decide +kernel⟩
theorem ok_curI (F : Fun K "__init__" "Cursor.__init__" sCurI f fd) (C : CurC K CC) (DW : Dn P w K mg base 5 "words_of" ["text"] spWords) : FnOk P w K mg base CX0 6 f fd ["self", "text"] (spCurI CC) := by
  refine F.ok sc_curI (fun vs H Q E ⟨_, _, _, _, e, _⟩ => by rw [e]; rfl) (fun cdv A outer s H vs Q E hr h => ?_)
  obtain ⟨c, dx, cs, ws, rfl, hc, hl, hs, q⟩ := h
  refine ⟨_, pss_cons (ps_fld (pv 0) (pe_dn DW hr (by rfl) (pa_cons (pv 1) pa_nil)) rfl) (pss_cons (ps_fld (pv 0) pe_int rfl) (pss_one (ps_fld (pv 0) pe_int rfl))), ?_⟩
  refine ⟨_, rfl, cs, ws, rfl, hl, hs, fun L us H1 s1 hL0 hL hw => ?_⟩
  have hc1 := s1 _ _ hc
  refine ⟨_, rfl, c, CC, dx, _, rfl, hc1, C.cl, C.nw, (by decide : 0 < 1000), ?_⟩
  refine ⟨_, rfl, c, CC, dx, _, rfl, upd_same, C.cl, C.nr, (by decide : 1 < 1000), ?_⟩
  refine ⟨_, rfl, c, CC, dx, _, rfl, upd_same, C.cl, C.nd, (by decide : 2 < 1000), ?_⟩
  have ne : L ≠ c := fun e => by rw [e, hc] at hL0; cases hL0
  have hsl := scan_len hs
  refine q _ (fun b o e n => ?_) ⟨dx, L, us, ws, 0, upd_same, ?_, ?_, by omega, rfl⟩
  · rw [upd_ne n, upd_ne n, upd_ne n]
    exact s1 _ _ e
  · rw [upd_ne ne, upd_ne ne, upd_ne ne]
    exact hL
  · refine hw.tups fun p u e => ?_
    have n : p ≠ c := fun z => by rw [z, hc1] at e; cases e
    rw [upd_ne n, upd_ne n, upd_ne n]
    exact e
theorem sc_readq : FnScope ["text", "cursor", "question"] ["text"] (defScope sReadQuestion) := ⟨rfl, rfl, rfl, by decide +kernel, rfl, by decide +kernel, by decide +kernel⟩
theorem ok_readq (F : Fun K "read_question" "read_question" sReadQuestion f fd) (B : Blt mg) (ER : ErW P w K mg base CN "NoQuestion" "place") (MC : MkCur P w K mg base CC) (M : Cur P w K mg base CC CN) (N : RdN P w K mg base CC CN 33) : FnM P w K mg base 628 f (spQ K CN) := by
  refine fnm_of F sc_readq (F.binds fun _ _ _ _ _ _ us hl => match us, hl with | [_], _ => rfl) (fun vs H Q E z => by rcases z with ⟨_, e, _⟩ | ⟨_, _, e, _⟩ <;> (rw [e]; rfl)) (fun cdv A outer s H vs Q E hr h => ?_)
  obtain ⟨fI, fdI, mkI, gI, bI, FI⟩ := MC.ex
  obtain ⟨ff, fdf, mf, bf, Ff⟩ := M.finish.ex
  have hx : Passes (L2.CX P w) (cxOf (L2.CX P w) P w K mg base ["text", "cursor", "question"] "read_question" (defScope sReadQuestion) f cdv A outer s H E) E := pass_up (takes_of rfl rfl rfl rfl)
  have hr7 : Room 7 _ := hr.room.mono (by decide)
  have hr5 : Room 5 _ := hr.room.mono (by decide)
  have hr2 : Room 2 _ := hr.room.mono (by decide)
  refine ⟨_, pss_cons (ps_if (pt_not (pt_val (pe_callB call_isi (by rfl) B.isi boot_isi (pa_cons (pv 0) (pa_cons (pe_bltn (v := .ty "str") (by rfl) B.str boot_str rfl) pa_nil))))) (pss_one (ps_erw rfl ER (takes_of rfl rfl rfl rfl) hr2 (by rfl) pe_int (by decide))) pss_nil)
    (pss_cons (ps_set (i := 1) sc_readq.nd rfl (Or.inl rfl) (pe_make mkI FI hr7 (by rfl) gI bI .nil pass0 (pa_cons (pv 0) pa_nil)))
    (pss_cons (ps_set (i := 2) sc_readq.nd rfl (Or.inl rfl) (pe_dnm (E := E) N.W (hr.mono (by omega)) (by rfl) hx (pa_cons (pv 1) pa_nil)))
    (pss_cons (ps_expr (pe_meth0 (E := E) (pv 1) M.cc.cl mf Ff hr5 bf .nil hx)) (pss_one (ps_ret (pv 2)))))), ?_⟩
  rcases h with ⟨cs, rfl, hl, h⟩ | ⟨v, d, rfl, hd, hs, h⟩
  · refine ⟨_, rfl, _, .ty "str", .type "str", .type "str", true, rfl, .ty _, .base (.str _), kit_ty (by decide +kernel), _, rfl, ?_⟩
    unfold readQ at h
    cases es : scanW cs (cs.length + 1) 0 with
    | none => rw [es] at h; exact h.elim
    | some ws =>
    rw [es] at h
    have h : (rQuestion ws 0).to (fun t _ _ => ∀ v H', Same H H' → RtAt H' v t → Q v H') (LetsQ CN H E) := h
    refine iteF ⟨_, rfl, fun c dx hc hdx ne => ⟨c, dx, cs, ws, rfl, upd_same, hl, es, fun H2 o2 hcur => ⟨rfl, ?_⟩⟩⟩
    have s1 : Same H H2 := fun b o e => by
      have n1 : b ≠ c := ne_of_none e hc
      have n2 : b ≠ dx := ne_of_none e hdx
      refine o2 b o ?_ n1
      rw [upd_ne n1, upd_ne n2]
      exact e
    have hc0 : H c = none := hc
    have same_of : ∀ {H1 H' : Hp}, Same H H1 → OffA H1 H' c → Same H H' := fun a o b u e => o b u (a _ _ e) (ne_of_none e hc0)
    refine ⟨_, rfl, c, ws, 0, rfl, hcur, Rs.to_imp (bnd_to h) (fun t us e k v H3 o3 hc3 ht => ?_) (fun p k dx H' o e => k dx H' (same_of s1 o) e)⟩
    obtain ⟨dx3, wa3, r3, h3⟩ := hc3.dat
    refine ⟨_, rfl, c, dx3, _, rfl, h3, rfl, c, us, e, rfl, hc3, Rs.to_imp (bnd_to k) (fun _ us4 e4 k4 v4 H4 o4 hc4 _ => ?_) (fun p k dx H' o e => k dx H' (same_of (same_of s1 o3) o) e)⟩
    exact ⟨_, rfl, (ret_to k4) _ _ (same_of (same_of s1 o3) o4) (ht.tups (o4.tups hc3))⟩
  · have hm := dTy_in d
    refine ⟨_, rfl, v, .ty "str", .type (dTy d), .type "str", _, rfl, .ty _, hd.ty, kit_ty (kit_str _ hm), _, rfl, ?_⟩
    rw [dty_str d, hs]
    refine iteT (erw_asks ER fun dx H' s1 nd e => h dx H' s1 e)
end
end Ask
namespace Ask
open PySem L2 PySem.Spec PyProof.Rows PySem.AskX LamX NdefX

/-! ### reading one after another -/
section
variable {α β : Type} {f g : PM α} {k : α → PM β} {t : PM Bool} {ws us : List Wd} {d e : Int} {a : α} {p : Nat}
theorem bnd_ok (h : f ws d = .ok a us e) : bnd f k ws d = k a us e := by unfold bnd; rw [h]
theorem bnd_er (h : f ws d = .err p) : bnd f k ws d = .err p := by unfold bnd; rw [h]
theorem lop_no {F : α → PM α} (h : t ws d = .ok false ws d) : lop t F a ws d = .ok a ws d := by
  show whl t F (ws.length + 1) a ws d = _
  show bnd t (fun b => if b then bnd (F a) (whl t F ws.length) else ret a) ws d = _
  rw [bnd_ok h]
  rfl
theorem pass_no {w : Wd} {z : List Nat} (h : w.isIn [z] = false) : pPass z (w :: ws) d = .ok false (w :: ws) d := by
  show bnd (pSees [z]) _ (w :: ws) d = _
  rw [bnd_ok (show pSees [z] (w :: ws) d = .ok false (w :: ws) d from congrArg (Rs.ok · (w :: ws) d) h)]
  rfl
theorem sees_no {w : Wd} {l : List (List Nat)} (h : w.isIn l = false) : pSees l (w :: ws) d = .ok false (w :: ws) d := congrArg (Rs.ok · (w :: ws) d) h
theorem sees_yes {w : Wd} {l : List (List Nat)} (h : w.isIn l = true) : pSees l (w :: ws) d = .ok true (w :: ws) d := congrArg (Rs.ok · (w :: ws) d) h
/-- a keyword or sign that neither opens nor closes -/
theorem pass_yes {w : Wd} {z : List Nat} (h : w.isIn [z] = true) (h1 : w.isIn [w_op, w_case] = false) (h2 : w.isIn [w_cl, w_end] = false) : pPass z (w :: ws) d = .ok true ws d := by
  show bnd (pSees [z]) _ (w :: ws) d = _
  rw [bnd_ok (sees_yes h)]
  show bnd pStep (fun _ => ret true) (w :: ws) d = _
  rw [bnd_ok (show pStep (w :: ws) d = .ok w.s ws d by unfold pStep; simp only [h1, h2]; rfl)]
  rfl
theorem pass_open {w : Wd} {z : List Nat} (h : w.isIn [z] = true) (h1 : w.isIn [w_op, w_case] = true) (hd : d ≠ 30) : pPass z (w :: ws) d = .ok true ws (d + 1) := by
  show bnd (pSees [z]) _ (w :: ws) d = _
  rw [bnd_ok (sees_yes h)]
  show bnd pStep (fun _ => ret true) (w :: ws) d = _
  rw [bnd_ok (show pStep (w :: ws) d = .ok w.s ws (d + 1) by unfold pStep; simp only [h1, if_neg hd]; rfl)]
  rfl
theorem pass_full {w : Wd} {z : List Nat} (h : w.isIn [z] = true) (h1 : w.isIn [w_op, w_case] = true) : pPass z (w :: ws) 30 = .err w.p := by
  show bnd (pSees [z]) _ (w :: ws) 30 = _
  rw [bnd_ok (sees_yes h)]
  show bnd pStep (fun _ => ret true) (w :: ws) 30 = _
  exact bnd_er (show pStep (w :: ws) 30 = .err w.p by unfold pStep; simp only [h1]; rfl)
theorem pass_close {w : Wd} {z : List Nat} (h : w.isIn [z] = true) (h1 : w.isIn [w_op, w_case] = false) (h2 : w.isIn [w_cl, w_end] = true) : pPass z (w :: ws) d = .ok true ws (d - 1) := by
  show bnd (pSees [z]) _ (w :: ws) d = _
  rw [bnd_ok (sees_yes h)]
  show bnd pStep (fun _ => ret true) (w :: ws) d = _
  rw [bnd_ok (show pStep (w :: ws) d = .ok w.s ws (d - 1) by unfold pStep; simp only [h1, h2]; rfl)]
  rfl
theorem exp_of {z : List Nat} (h : pPass z ws d = .ok true us e) : pExp z ws d = .ok () us e := by
  show bnd (pPass z) _ ws d = _
  rw [bnd_ok h]
  rfl
theorem exp_er {z : List Nat} (h : pPass z ws d = .err p) : pExp z ws d = .err p := bnd_er h
theorem holds_no {w : Wd} {x : Kd} (h : w.k ≠ x) : pHolds x (w :: ws) d = .ok false (w :: ws) d := congrArg (Rs.ok · (w :: ws) d) (decide_eq_false h)
theorem holds_yes {w : Wd} {x : Kd} (h : w.k = x) : pHolds x (w :: ws) d = .ok true (w :: ws) d := congrArg (Rs.ok · (w :: ws) d) (decide_eq_true h)
theorem take_of {w : Wd} {x : Kd} (h : w.k = x) (h1 : w.isIn [w_op, w_case] = false) (h2 : w.isIn [w_cl, w_end] = false) : pTake x (w :: ws) d = .ok w.s ws d := by
  show bnd (pHolds x) _ (w :: ws) d = _
  rw [bnd_ok (holds_yes h)]
  show pStep (w :: ws) d = _
  unfold pStep
  simp only [h1, h2]
  rfl
end
/-! ### what ends an expression, what begins one -/
def Wd.ends (u : Wd) : Bool := !u.isIn [w_star] && !u.isIn [w_plus, w_minus] && !u.isIn cmpW && !u.isIn [w_is] && !u.isIn [w_not] && !u.isIn [w_in] && !u.isIn [w_and] && !u.isIn [w_or]
def Wd.begins (u : Wd) : Bool := !u.isIn [w_minus] && !u.isIn [w_not] && !u.isIn [w_exists]
structure Ends (u : Wd) : Prop where
  star : u.isIn [w_star] = false
  plus : u.isIn [w_plus, w_minus] = false
  cmp : u.isIn cmpW = false
  is : u.isIn [w_is] = false
  no : u.isIn [w_not] = false
  in_ : u.isIn [w_in] = false
  and : u.isIn [w_and] = false
  or : u.isIn [w_or] = false
theorem ends_of {u : Wd} (h : u.ends = true) : Ends u := by
  unfold Wd.ends at h
  simp only [Bool.and_eq_true, Bool.not_eq_true'] at h
  obtain ⟨⟨⟨⟨⟨⟨⟨h1, h2⟩, h3⟩, h4⟩, h5⟩, h6⟩, h7⟩, h8⟩ := h
  exact ⟨h1, h2, h3, h4, h5, h6, h7, h8⟩
section
variable {R : Rd} {w u : Wd} {ws us : List Wd} {d e : Int} {t : Tr} {p : Nat}
theorem begins_of (h : w.begins = true) : w.isIn [w_minus] = false ∧ w.isIn [w_not] = false ∧ w.isIn [w_exists] = false := by
  unfold Wd.begins at h
  simp only [Bool.and_eq_true, Bool.not_eq_true'] at h
  exact ⟨h.1.1, h.1.2, h.2⟩
theorem fac_ok (hb : w.begins = true) (h : rBare R (w :: ws) d = .ok t us e) : rFactor R (w :: ws) d = .ok t us e := by
  show bnd (lop (pPass w_minus) _ 0) _ (w :: ws) d = _
  rw [bnd_ok (lop_no (pass_no (begins_of hb).1))]
  exact h
theorem fac_er (hb : w.begins = true) (h : rBare R (w :: ws) d = .err p) : rFactor R (w :: ws) d = .err p := by
  show bnd (lop (pPass w_minus) _ 0) _ (w :: ws) d = _
  rw [bnd_ok (lop_no (pass_no (begins_of hb).1))]
  exact h
theorem prod_ok (hb : w.begins = true) (h : rBare R (w :: ws) d = .ok t (u :: us) e) (hu : u.isIn [w_star] = false) : rProduct R (w :: ws) d = .ok t (u :: us) e := by
  show bnd (rFactor R) _ (w :: ws) d = _
  rw [bnd_ok (fac_ok hb h)]
  exact lop_no (pass_no hu)
theorem prod_er (hb : w.begins = true) (h : rBare R (w :: ws) d = .err p) : rProduct R (w :: ws) d = .err p := by
  show bnd (rFactor R) _ (w :: ws) d = _
  exact bnd_er (fac_er hb h)
theorem sum_ok (hb : w.begins = true) (h : rBare R (w :: ws) d = .ok t (u :: us) e) (hu : Ends u) : rSum R (w :: ws) d = .ok t (u :: us) e := by
  show bnd (rProduct R) _ (w :: ws) d = _
  rw [bnd_ok (prod_ok hb h hu.star)]
  exact lop_no (sees_no hu.plus)
theorem sum_er (hb : w.begins = true) (h : rBare R (w :: ws) d = .err p) : rSum R (w :: ws) d = .err p := bnd_er (prod_er hb h)
theorem e_no (hb : w.begins = true) : rNo R (w :: ws) d = bnd (rTest R) (fun t => ret (nots 0 t)) (w :: ws) d := by
  show bnd (lop (pPass w_not) _ 0) _ (w :: ws) d = _
  rw [bnd_ok (lop_no (pass_no (begins_of hb).2.1))]
theorem test_of (hb : w.begins = true) : rTest R (w :: ws) d = bnd (rSum R) (fun l => bnd (pSees cmpW) fun b => if b then rComparison R l else
  bnd (pPass w_is) fun b => if b then rIs R l else
  bnd (pPass w_not) fun b => if b then bnd (pExp w_in) fun _ => bnd (rEnclosed R) fun q => ret (tag w_not [tag w_in [l, q]]) else
  bnd (pPass w_in) fun b => if b then bnd (rEnclosed R) fun q => ret (tag w_in [l, q]) else ret l) (w :: ws) d := by
  show bnd (pPass w_exists) _ (w :: ws) d = _
  rw [bnd_ok (pass_no (begins_of hb).2.2)]
  rfl
theorem test_end (hu : Ends u) : (bnd (pSees cmpW) fun b => if b then rComparison R t else
  bnd (pPass w_is) fun b => if b then rIs R t else
  bnd (pPass w_not) fun b => if b then bnd (pExp w_in) fun _ => bnd (rEnclosed R) fun q => ret (tag w_not [tag w_in [t, q]]) else
  bnd (pPass w_in) fun b => if b then bnd (rEnclosed R) fun q => ret (tag w_in [t, q]) else ret t) (u :: us) e = .ok t (u :: us) e := by
  rw [bnd_ok (sees_no hu.cmp)]
  show bnd (pPass w_is) _ (u :: us) e = _
  rw [bnd_ok (pass_no hu.is)]
  show bnd (pPass w_not) _ (u :: us) e = _
  rw [bnd_ok (pass_no hu.no)]
  show bnd (pPass w_in) _ (u :: us) e = _
  rw [bnd_ok (pass_no hu.in_)]
  rfl
theorem e_ok (hb : w.begins = true) (h : rTest R (w :: ws) d = .ok t (u :: us) e) (hu : Ends u) : rE R (w :: ws) d = .ok t (u :: us) e := by
  have h1 : rNo R (w :: ws) d = .ok t (u :: us) e := by rw [e_no hb, bnd_ok h]; rfl
  have h2 : rBoth R (w :: ws) d = .ok t (u :: us) e := by
    show bnd (rNo R) _ (w :: ws) d = _
    rw [bnd_ok h1]
    show bnd (lop (pPass w_and) _ [t]) _ (u :: us) e = _
    rw [bnd_ok (lop_no (pass_no hu.and))]
    rfl
  show bnd (rBoth R) _ (w :: ws) d = _
  rw [bnd_ok h2]
  show bnd (lop (pPass w_or) _ [t]) _ (u :: us) e = _
  rw [bnd_ok (lop_no (pass_no hu.or))]
  rfl
theorem e_er (hb : w.begins = true) (h : rTest R (w :: ws) d = .err p) : rE R (w :: ws) d = .err p := by
  have h1 : rNo R (w :: ws) d = .err p := by rw [e_no hb, bnd_er h]
  exact bnd_er (bnd_er h1)
theorem e_sum (hb : w.begins = true) (h : rSum R (w :: ws) d = .ok t (u :: us) e) (hu : Ends u) : rE R (w :: ws) d = .ok t (u :: us) e := e_ok hb (by rw [test_of hb, bnd_ok h]; exact test_end hu) hu
theorem e_sumE (hb : w.begins = true) (h : rSum R (w :: ws) d = .err p) : rE R (w :: ws) d = .err p := e_er hb (by rw [test_of hb, bnd_er h])
theorem e_bare (hb : w.begins = true) (h : rBare R (w :: ws) d = .ok t (u :: us) e) (hu : Ends u) : rE R (w :: ws) d = .ok t (u :: us) e := e_sum hb (sum_ok hb h hu) hu
theorem e_bareE (hb : w.begins = true) (h : rBare R (w :: ws) d = .err p) : rE R (w :: ws) d = .err p := e_sumE hb (sum_er hb h)
end
end Ask
namespace Ask
open PySem L2 PySem.Spec PyProof.Rows PySem.AskX LamX NdefX

/-! ### shells -/
inductive Sh
  | par | cas | coa | one | cnt | sum
abbrev wW (z : List Nat) (i : Nat) : Wd := ⟨.word, .str z, i⟩
abbrev wN (z : List Nat) (i : Nat) : Wd := ⟨.name, .str z, i⟩
abbrev wI (k : Int) (i : Nat) : Wd := ⟨.int, .int k, i⟩
def Sh.lenA : Sh → Nat
  | .par => 1 | .cas => 21 | .coa => 12 | .one => 12 | .cnt => 6 | .sum => 10
def Sh.lenB : Sh → Nat
  | .par => 1 | .cas => 4 | .coa => 1 | .one => 13 | .cnt => 1 | .sum => 1
/-- where its first opening word stands -/
def Sh.opn : Sh → Nat
  | .par => 0 | .cas => 0 | .coa => 8 | .one => 4 | .cnt => 5 | .sum => 3
def Sh.pre : Sh → Nat → List Wd
  | .par, i => [wW w_op i]
  | .cas, i => [wW w_case i, wW w_when (i + 5), wN [120] (i + 10), wW w_eq (i + 12), wI 1 (i + 14), wW w_then (i + 16)]
  | .coa, i => [wW w_coalesce i, wW w_op (i + 8), wI 1 (i + 9), wW w_comma (i + 10)]
  | .one, i => [wW w_one i, wW w_op (i + 4), wW w_select (i + 5)]
  | .cnt, i => [wW w_count i, wW w_op (i + 5)]
  | .sum, i => [wW w_sum i, wW w_op (i + 3), wN [120] (i + 4), wW w_cl (i + 5), wW w_plus (i + 7), wW w_op (i + 9)]
def Sh.suf : Sh → Nat → List Wd
  | .par, i => [wW w_cl i]
  | .cas, i => [wW w_end (i + 1)]
  | .coa, i => [wW w_cl i]
  | .one, i => [wW w_as (i + 1), wN [121] (i + 4), wW w_from (i + 6), wN [116] (i + 11), wW w_cl (i + 12)]
  | .cnt, i => [wW w_cl i]
  | .sum, i => [wW w_cl i]
def shLen : List Sh → Nat
  | [] => 1
  | s :: ss => s.lenA + shLen ss + s.lenB
def shWs : List Sh → Nat → List Wd
  | [], i => [wN [120] i]
  | s :: ss, i => s.pre i ++ (shWs ss (i + s.lenA) ++ s.suf (i + s.lenA + shLen ss))
/-- the place of the word that opens the 31st -/
def shDue : List Sh → Int → Nat → Option Nat
  | [], _, _ => none
  | s :: ss, d, i => if d = 30 then some (i + s.opn) else shDue ss (d + 1) (i + s.lenA)
def isE (t : Tr) : Prop := ∃ z r, t = .tup (.str z :: r) ∧ (z = w_column → ∃ a b, r = [a, b])
section
variable {α β : Type} {f : PM Bool} {A B : PM α} {t : PM Bool} {F : α → PM α} {a b : α} {R : Rd} {w u : Wd} {ws us vs : List Wd} {d e e1 : Int} {p : Nat}
theorem no_step (h : f ws d = .ok false ws d) : bnd f (fun b => if b then A else B) ws d = B ws d := by rw [bnd_ok h]; rfl
theorem yes_step (h : f ws d = .ok true us e) : bnd f (fun b => if b then A else B) ws d = A us e := by rw [bnd_ok h]; rfl
theorem lop_one (h : t (w :: ws) d = .ok true vs e1) (h2 : F a vs e1 = .ok b us e) (h3 : t us e = .ok false us e) : lop t F a (w :: ws) d = .ok b us e := by
  show bnd t (fun b => if b then bnd (F a) (whl t F (ws.length + 1)) else ret a) (w :: ws) d = _
  rw [bnd_ok h]
  show bnd (F a) (whl t F (ws.length + 1)) vs e1 = _
  rw [bnd_ok h2]
  show bnd t (fun b_1 => if b_1 then bnd (F b) (whl t F ws.length) else ret b) us e = _
  rw [bnd_ok h3]
  rfl
theorem lop_oneE (h : t (w :: ws) d = .ok true vs e1) (h2 : F a vs e1 = .err p) : lop t F a (w :: ws) d = .err p := by
  show bnd t (fun b => if b then bnd (F a) (whl t F (ws.length + 1)) else ret a) (w :: ws) d = _
  rw [bnd_ok h]
  exact bnd_er h2
/-- a column's name -/
theorem bare_x {i : Nat} {z : List Nat} (h : u.isIn [w_dot] = false) : rBare R (wN z i :: u :: us) d = .ok (tag w_column [.non, .str z]) (u :: us) d := by
  refine (no_step (holds_no (by simp))).trans ?_
  refine (no_step (holds_no (by simp))).trans ?_
  refine (no_step (holds_no (by simp))).trans ?_
  refine (no_step (pass_no rfl)).trans ?_
  refine (no_step (pass_no rfl)).trans ?_
  refine (no_step (pass_no rfl)).trans ?_
  refine (no_step (pass_no rfl)).trans ?_
  refine (no_step (pass_no rfl)).trans ?_
  refine (no_step (sees_no rfl)).trans ?_
  refine (no_step (sees_no rfl)).trans ?_
  refine (bnd_ok (take_of (by rfl) (by rfl) (by rfl))).trans ?_
  refine (no_step (pass_no h)).trans ?_
  rfl
theorem bare_i {i : Nat} {k : Int} : rBare R (wI k i :: us) d = .ok (tag w_value [.int k]) us d := by
  refine (yes_step (holds_yes rfl)).trans ?_
  refine (bnd_ok (take_of (by rfl) (by rfl) (by rfl))).trans ?_
  rfl
/-- a keyword or sign: no number, text, parameter, null -/
theorem bare_w {i : Nat} {z : List Nat} (h : (wW z i).isIn [w_null] = false) : rBare R (wW z i :: us) d = (bnd (pPass w_one) fun b => if b then bnd (rEnclosed R) fun q => ret (tag w_one [q]) else
  bnd (pPass w_case) fun b => if b then rCase R else
  bnd (pPass w_coalesce) fun b => if b then rCoalesce R else
  bnd (pPass w_count) fun b => if b then rCount R else
  bnd (pSees [w_sum, w_least, w_most]) fun b => if b then bnd pStep fun z => bnd (rParen R) fun e => ret (.tup [z, e]) else
  bnd (pSees [w_op]) fun b => if b then rParen R else rColumn) (wW z i :: us) d := by
  refine (no_step (holds_no (by simp))).trans ?_
  refine (no_step (holds_no (by simp))).trans ?_
  refine (no_step (holds_no (by simp))).trans ?_
  exact no_step (pass_no h)
/-! ### parentheses -/
theorem bare_par {i : Nat} : rBare R (wW w_op i :: us) d = rParen R (wW w_op i :: us) d := by
  refine (bare_w rfl).trans ?_
  refine (no_step (pass_no rfl)).trans ?_
  refine (no_step (pass_no rfl)).trans ?_
  refine (no_step (pass_no rfl)).trans ?_
  refine (no_step (pass_no rfl)).trans ?_
  refine (no_step (sees_no rfl)).trans ?_
  exact yes_step (sees_yes rfl)
variable {x : Tr}
theorem paren_ok {i j : Nat} (hd : d ≠ 30) (h : R.E ws (d + 1) = .ok x (wW w_cl j :: us) (d + 1)) : rParen R (wW w_op i :: ws) d = .ok x us d := by
  refine (bnd_ok (exp_of (pass_open rfl rfl hd))).trans ?_
  refine (bnd_ok h).trans ?_
  refine (bnd_ok (exp_of (pass_close rfl rfl rfl))).trans ?_
  rw [show d + 1 - 1 = d by omega]
  rfl
theorem paren_er {i : Nat} (hd : d ≠ 30) (h : R.E ws (d + 1) = .err p) : rParen R (wW w_op i :: ws) d = .err p := by
  refine (bnd_ok (exp_of (pass_open rfl rfl hd))).trans ?_
  exact bnd_er h
theorem paren_full {i : Nat} : rParen R (wW w_op i :: ws) 30 = .err i := bnd_er (exp_er (pass_full rfl rfl))
/-! ### x = 1 -/
theorem e_cmp {i j k l : Nat} : rE R (wN [120] i :: wW w_eq j :: wI 1 k :: wW w_then l :: us) d = .ok (.tup [.str w_eq, tag w_column [.non, .str [120]], tag w_value [.int 1]]) (wW w_then l :: us) d := by
  refine e_ok rfl ?_ (ends_of rfl)
  rw [test_of rfl, bnd_ok (show rSum R (wN [120] i :: wW w_eq j :: wI 1 k :: wW w_then l :: us) d = .ok (tag w_column [.non, .str [120]]) (wW w_eq j :: wI 1 k :: wW w_then l :: us) d from
    (bnd_ok (prod_ok rfl (bare_x rfl) rfl)).trans (lop_no (sees_no rfl)))]
  refine (yes_step (sees_yes rfl)).trans ?_
  refine (bnd_ok (show pStep (wW w_eq j :: wI 1 k :: wW w_then l :: us) d = .ok (.str w_eq) (wI 1 k :: wW w_then l :: us) d from rfl)).trans ?_
  refine (no_step (sees_no rfl)).trans ?_
  refine (bnd_ok (sum_ok rfl bare_i (ends_of rfl))).trans ?_
  rfl
/-! ### each shell: what is within is read, or stops being read -/
theorem cas_ok {i j k l m n q : Nat} (hc : R.E (wN [120] k :: wW w_eq l :: wI 1 m :: wW w_then n :: ws) (d + 1) = .ok (.tup [.str w_eq, tag w_column [.non, .str [120]], tag w_value [.int 1]]) (wW w_then n :: ws) (d + 1)) (hd : d ≠ 30) (h : R.E ws (d + 1) = .ok x (wW w_end q :: us) (d + 1)) :
    ∃ y, isE y ∧ rBare R (wW w_case i :: wW w_when j :: wN [120] k :: wW w_eq l :: wI 1 m :: wW w_then n :: ws) d = .ok y us d := by
  refine ⟨tag w_case [.tup [.tup [.tup [.str w_eq, tag w_column [.non, .str [120]], tag w_value [.int 1]], x]], tag w_value [.non]], ⟨_, _, rfl, fun h => absurd h (by decide)⟩, (bare_w rfl).trans ((no_step (pass_no rfl)).trans ((yes_step (pass_open rfl rfl hd)).trans ((bnd_ok (exp_of (pass_yes rfl rfl rfl))).trans ((bnd_ok (show rChoice R _ _ = _ from (bnd_ok hc).trans ((bnd_ok (exp_of (pass_yes rfl rfl rfl))).trans ((bnd_ok h).trans rfl)))).trans
    ((bnd_ok (lop_no (pass_no rfl))).trans ((no_step (pass_no rfl)).trans ((bnd_ok (exp_of (pass_close rfl rfl rfl))).trans ?_)))))))⟩
  rw [show d + 1 - 1 = d by omega]
  rfl
theorem cas_er {i j k l m n : Nat} (hc : R.E (wN [120] k :: wW w_eq l :: wI 1 m :: wW w_then n :: ws) (d + 1) = .ok (.tup [.str w_eq, tag w_column [.non, .str [120]], tag w_value [.int 1]]) (wW w_then n :: ws) (d + 1)) (hd : d ≠ 30) (h : R.E ws (d + 1) = .err p) :
    rBare R (wW w_case i :: wW w_when j :: wN [120] k :: wW w_eq l :: wI 1 m :: wW w_then n :: ws) d = .err p :=
  (bare_w rfl).trans ((no_step (pass_no rfl)).trans ((yes_step (pass_open rfl rfl hd)).trans ((bnd_ok (exp_of (pass_yes rfl rfl rfl))).trans (bnd_er (show rChoice R _ _ = _ from (bnd_ok hc).trans ((bnd_ok (exp_of (pass_yes rfl rfl rfl))).trans (bnd_er h)))))))
theorem cas_full {i : Nat} : rBare R (wW w_case i :: ws) 30 = .err i := (bare_w rfl).trans ((no_step (pass_no rfl)).trans (bnd_er (pass_full rfl rfl)))
theorem coa_ok {i j k l q : Nat} (hd : d ≠ 30) (h1 : R.E (wI 1 k :: wW w_comma l :: ws) (d + 1) = .ok (tag w_value [.int 1]) (wW w_comma l :: ws) (d + 1)) (h : R.E ws (d + 1) = .ok x (wW w_cl q :: us) (d + 1)) :
    ∃ y, isE y ∧ rBare R (wW w_coalesce i :: wW w_op j :: wI 1 k :: wW w_comma l :: ws) d = .ok y us d := by
  refine ⟨tag w_coalesce [.tup [tag w_value [.int 1], x]], ⟨_, _, rfl, fun h => absurd h (by decide)⟩, (bare_w rfl).trans ((no_step (pass_no rfl)).trans ((no_step (pass_no rfl)).trans ((yes_step (pass_yes rfl rfl rfl)).trans ((bnd_ok (exp_of (pass_open rfl rfl hd))).trans ((bnd_ok h1).trans
    ((bnd_ok (lop_one (pass_yes rfl rfl rfl) (bnd_ok h) (pass_no rfl))).trans ((bnd_ok (exp_of (pass_close rfl rfl rfl))).trans ?_)))))))⟩
  rw [show d + 1 - 1 = d by omega]
  rfl
theorem coa_er {i j k l : Nat} (hd : d ≠ 30) (h1 : R.E (wI 1 k :: wW w_comma l :: ws) (d + 1) = .ok (tag w_value [.int 1]) (wW w_comma l :: ws) (d + 1)) (h : R.E ws (d + 1) = .err p) : rBare R (wW w_coalesce i :: wW w_op j :: wI 1 k :: wW w_comma l :: ws) d = .err p :=
  (bare_w rfl).trans ((no_step (pass_no rfl)).trans ((no_step (pass_no rfl)).trans ((yes_step (pass_yes rfl rfl rfl)).trans ((bnd_ok (exp_of (pass_open rfl rfl hd))).trans ((bnd_ok h1).trans (bnd_er (lop_oneE (pass_yes rfl rfl rfl) (bnd_er h))))))))
theorem coa_full {i j : Nat} : rBare R (wW w_coalesce i :: wW w_op j :: ws) 30 = .err j := (bare_w rfl).trans ((no_step (pass_no rfl)).trans ((no_step (pass_no rfl)).trans ((yes_step (pass_yes rfl rfl rfl)).trans (bnd_er (exp_er (pass_full rfl rfl))))))
theorem cnt_ok {i j q : Nat} (hd : d ≠ 30) (hs : w.isIn [w_star] = false) (hx : w.isIn [w_distinct] = false) (h : R.E (w :: ws) (d + 1) = .ok x (wW w_cl q :: us) (d + 1)) : ∃ y, isE y ∧ rBare R (wW w_count i :: wW w_op j :: w :: ws) d = .ok y us d := by
  refine ⟨tag w_count [x, .bl false], ⟨_, _, rfl, fun h => absurd h (by decide)⟩, (bare_w rfl).trans ((no_step (pass_no rfl)).trans ((no_step (pass_no rfl)).trans ((no_step (pass_no rfl)).trans ((yes_step (pass_yes rfl rfl rfl)).trans ((bnd_ok (exp_of (pass_open rfl rfl hd))).trans ((no_step (pass_no hs)).trans
    ((bnd_ok (pass_no hx)).trans ((bnd_ok h).trans ((bnd_ok (exp_of (pass_close rfl rfl rfl))).trans ?_)))))))))⟩
  rw [show d + 1 - 1 = d by omega]
  rfl
theorem cnt_er {i j : Nat} (hd : d ≠ 30) (hs : w.isIn [w_star] = false) (hx : w.isIn [w_distinct] = false) (h : R.E (w :: ws) (d + 1) = .err p) : rBare R (wW w_count i :: wW w_op j :: w :: ws) d = .err p :=
  (bare_w rfl).trans ((no_step (pass_no rfl)).trans ((no_step (pass_no rfl)).trans ((no_step (pass_no rfl)).trans ((yes_step (pass_yes rfl rfl rfl)).trans ((bnd_ok (exp_of (pass_open rfl rfl hd))).trans ((no_step (pass_no hs)).trans ((bnd_ok (pass_no hx)).trans (bnd_er h))))))))
theorem cnt_full {i j : Nat} : rBare R (wW w_count i :: wW w_op j :: ws) 30 = .err j := (bare_w rfl).trans ((no_step (pass_no rfl)).trans ((no_step (pass_no rfl)).trans ((no_step (pass_no rfl)).trans ((yes_step (pass_yes rfl rfl rfl)).trans (bnd_er (exp_er (pass_full rfl rfl)))))))
end
end Ask
namespace Ask
open PySem L2 PySem.Spec PyProof.Rows PySem.AskX LamX NdefX

section
variable {R : Rd} {w u v : Wd} {ws us vs : List Wd} {d e e1 : Int} {p : Nat} {x : Tr}
/-! ### sum(x) + ( -/
theorem sum_par {i j k l : Nat} (hx : R.E (wN [120] k :: wW w_cl l :: ws) (d + 1) = .ok (tag w_column [.non, .str [120]]) (wW w_cl l :: ws) (d + 1)) (hd : d ≠ 30) :
    rBare R (wW w_sum i :: wW w_op j :: wN [120] k :: wW w_cl l :: ws) d = .ok (.tup [.str w_sum, tag w_column [.non, .str [120]]]) ws d :=
  (bare_w rfl).trans ((no_step (pass_no rfl)).trans ((no_step (pass_no rfl)).trans ((no_step (pass_no rfl)).trans ((no_step (pass_no rfl)).trans ((yes_step (sees_yes rfl)).trans
    ((bnd_ok (show pStep (wW w_sum i :: wW w_op j :: wN [120] k :: wW w_cl l :: ws) d = .ok (.str w_sum) (wW w_op j :: wN [120] k :: wW w_cl l :: ws) d from rfl)).trans ((bnd_ok (paren_ok hd hx)).trans rfl)))))))
theorem sum_full {i j : Nat} : rBare R (wW w_sum i :: wW w_op j :: ws) 30 = .err j :=
  (bare_w rfl).trans ((no_step (pass_no rfl)).trans ((no_step (pass_no rfl)).trans ((no_step (pass_no rfl)).trans ((no_step (pass_no rfl)).trans ((yes_step (sees_yes rfl)).trans
    ((bnd_ok (show pStep (wW w_sum i :: wW w_op j :: ws) 30 = .ok (.str w_sum) (wW w_op j :: ws) 30 from rfl)).trans (bnd_er paren_full)))))))
theorem plus_ok {i j k l m n q : Nat} (hx : R.E (wN [120] k :: wW w_cl l :: wW w_plus m :: wW w_op n :: ws) (d + 1) = .ok (tag w_column [.non, .str [120]]) (wW w_cl l :: wW w_plus m :: wW w_op n :: ws) (d + 1)) (hd : d ≠ 30)
    (h : R.E ws (d + 1) = .ok x (wW w_cl q :: u :: us) (d + 1)) (hu : Ends u) : ∃ y, isE y ∧ rSum R (wW w_sum i :: wW w_op j :: wN [120] k :: wW w_cl l :: wW w_plus m :: wW w_op n :: ws) d = .ok y (u :: us) d := by
  refine ⟨.tup [.str w_plus, .tup [.str w_sum, tag w_column [.non, .str [120]]], x], ⟨_, _, rfl, fun h => absurd h (by decide)⟩, (bnd_ok (prod_ok rfl (sum_par hx hd) rfl)).trans (lop_one (sees_yes rfl) ?_ (sees_no hu.plus))⟩
  refine (bnd_ok (show pStep (wW w_plus m :: wW w_op n :: ws) d = .ok (.str w_plus) (wW w_op n :: ws) d from rfl)).trans ?_
  exact (bnd_ok (prod_ok rfl (bare_par.trans (paren_ok hd h)) hu.star)).trans rfl
theorem plus_er {i j k l m n : Nat} (hx : R.E (wN [120] k :: wW w_cl l :: wW w_plus m :: wW w_op n :: ws) (d + 1) = .ok (tag w_column [.non, .str [120]]) (wW w_cl l :: wW w_plus m :: wW w_op n :: ws) (d + 1)) (hd : d ≠ 30)
    (h : R.E ws (d + 1) = .err p) : rSum R (wW w_sum i :: wW w_op j :: wN [120] k :: wW w_cl l :: wW w_plus m :: wW w_op n :: ws) d = .err p := by
  refine (bnd_ok (prod_ok rfl (sum_par hx hd) rfl)).trans (lop_oneE (sees_yes rfl) ?_)
  refine (bnd_ok (show pStep (wW w_plus m :: wW w_op n :: ws) d = .ok (.str w_plus) (wW w_op n :: ws) d from rfl)).trans ?_
  exact bnd_er (prod_er rfl (bare_par.trans (paren_er hd h)))
/-! ### items, sources -/
theorem item_ok {i j : Nat} {z : List Nat} (hx : isE x) (h : rE R ws d = .ok x (wW w_as i :: wN z j :: us) d) : rItem R ws d = .ok (.tup [x, .str z]) us d := by
  obtain ⟨y, r, rfl, hy⟩ := hx
  refine (bnd_ok h).trans ?_
  have as_ok : ∀ e : Tr, rAs e (wW w_as i :: wN z j :: us) d = .ok (.tup [e, .str z]) us d := fun e => (bnd_ok (exp_of (pass_yes rfl rfl rfl))).trans ((bnd_ok (take_of (by rfl) (by rfl) (by rfl))).trans rfl)
  by_cases e : y = w_column
  · obtain ⟨a, b, rfl⟩ := hy e
    show (if y = w_column then rItemCol (.tup [.str y, a, b]) [a, b] else rAs (.tup [.str y, a, b])) _ d = _
    rw [if_pos e]
    show (bnd (pSees [w_as]) fun c => if c then rAs (.tup [.str y, a, b]) else ret (.tup [.tup [.str y, a, b], b])) (wW w_as i :: wN z j :: us) d = _
    exact (yes_step (sees_yes (by rfl))).trans (as_ok _)
  · show (if y = w_column then rItemCol (.tup (.str y :: r)) r else rAs (.tup (.str y :: r))) _ d = _
    rw [if_neg e]
    exact as_ok _
theorem item_er (h : rE R ws d = .err p) : rItem R ws d = .err p := bnd_er h
/-- a table's name, and nothing behind it -/
theorem src_ok {j : Nat} {z : List Nat} (h1 : u.isIn [w_as] = false) (h2 : u.isIn [w_join, w_inner, w_left, w_full, w_cross] = false) (h3 : u.isIn [w_comma] = false) : rSources R (wN z j :: u :: us) d = .ok (tag w_table [.str z, .str z]) (u :: us) d := by
  have hs : rSingle R (wN z j :: u :: us) d = .ok (tag w_table [.str z, .str z]) (u :: us) d := (no_step (sees_no rfl)).trans ((bnd_ok (take_of (by rfl) (by rfl) (by rfl))).trans ((no_step (pass_no h1)).trans rfl))
  exact (bnd_ok hs).trans ((bnd_ok (show rJoins R _ (u :: us) d = _ from lop_no (sees_no h2))).trans (lop_no (pass_no h3)))
/-- what follows a select's sources and a question: nothing of it -/
structure Done (u : Wd) : Prop where
  as_ : u.isIn [w_as] = false
  join : u.isIn [w_join, w_inner, w_left, w_full, w_cross] = false
  comma : u.isIn [w_comma] = false
  where_ : u.isIn [w_where] = false
  group : u.isIn [w_group] = false
  having : u.isIn [w_having] = false
  inter : u.isIn [w_intersect] = false
  union : u.isIn [w_union, w_except] = false
  order : u.isIn [w_order] = false
theorem rest_ok {is : Tr} (hu : Done u) (dis : Bool) {j k : Nat} {z : List Nat} : (bnd (pExp w_from) fun _ => bnd (rSources R) fun s => opt (pPass w_where) (rE R) fun c => bnd rGroups fun g => opt (pPass w_having) (rE R) fun h => ret (tag w_select [.bl dis, is, s, c, g, h])) (wW w_from j :: wN z k :: u :: us) d =
    .ok (tag w_select [.bl dis, is, tag w_table [.str z, .str z], .non, .non, .non]) (u :: us) d := by
  refine (bnd_ok (exp_of (pass_yes rfl rfl rfl))).trans ((bnd_ok (src_ok hu.as_ hu.join hu.comma)).trans ?_)
  refine (no_step (pass_no hu.where_)).trans ?_
  refine (bnd_ok (show rGroups (u :: us) d = _ from no_step (pass_no hu.group))).trans ?_
  exact (no_step (pass_no hu.having)).trans rfl
theorem behind_ok {s : Tr} (hu : Done u) : rBehind R s (u :: us) d = .ok s (u :: us) d := by
  refine (bnd_ok (show rInter R s (u :: us) d = _ from lop_no (pass_no hu.inter))).trans ?_
  refine (bnd_ok (lop_no (sees_no hu.union))).trans ?_
  exact (no_step (pass_no hu.order)).trans rfl
/-! ### one (select .. -/
variable {m : Nat}
theorem one_ok {i j k q1 q2 q3 q4 q5 : Nat} (hd : d ≠ 30) (hs : w.isIn [w_star] = false) (hx : w.isIn [w_distinct] = false) (hxe : isE x) (h : (rd (m + 1)).E (w :: ws) (d + 1) = .ok x (wW w_as q1 :: wN [121] q2 :: wW w_from q3 :: wN [116] q4 :: wW w_cl q5 :: us) (d + 1)) :
    ∃ y, isE y ∧ rBare (rd (m + 1)) (wW w_one i :: wW w_op j :: wW w_select k :: w :: ws) d = .ok y us d := by
  have hW : (rd (m + 1)).W (wW w_select k :: w :: ws) (d + 1) = .ok (tag w_select [.bl false, .tup [.tup [x, .str [121]]], tag w_table [.str [116], .str [116]], .non, .non, .non]) (wW w_cl q5 :: us) (d + 1) := by
    have D : Done (wW w_cl q5) := ⟨rfl, rfl, rfl, rfl, rfl, rfl, rfl, rfl, rfl⟩
    have h : rE (rd m) (w :: ws) (d + 1) = _ := h
    have hi : rItems (rd m) (w :: ws) (d + 1) = .ok (.tup [.tup [x, .str [121]]]) (wW w_from q3 :: wN [116] q4 :: wW w_cl q5 :: us) (d + 1) :=
      (no_step (pass_no hs)).trans ((bnd_ok (item_ok hxe h)).trans ((bnd_ok (lop_no (pass_no rfl))).trans rfl))
    have hq : rSimple (rd m) (wW w_select k :: w :: ws) (d + 1) = .ok (tag w_select [.bl false, .tup [.tup [x, .str [121]]], tag w_table [.str [116], .str [116]], .non, .non, .non]) (wW w_cl q5 :: us) (d + 1) :=
      (yes_step (pass_yes rfl rfl rfl)).trans ((bnd_ok (pass_no hx)).trans ((bnd_ok hi).trans (rest_ok D false)))
    exact (show rWhole (rd m) _ _ = _ from (bnd_ok hq).trans (behind_ok D))
  refine ⟨tag w_one [tag w_select [.bl false, .tup [.tup [x, .str [121]]], tag w_table [.str [116], .str [116]], .non, .non, .non]], ⟨_, _, rfl, fun h => absurd h (by decide)⟩, (bare_w rfl).trans ((yes_step (pass_yes rfl rfl rfl)).trans ((bnd_ok (?_ : rEnclosed (rd (m + 1)) _ _ = .ok _ us d)).trans rfl))⟩
  refine (bnd_ok (exp_of (pass_open rfl rfl hd))).trans ((bnd_ok hW).trans ((bnd_ok (exp_of (pass_close rfl rfl rfl))).trans ?_))
  rw [show d + 1 - 1 = d by omega]
  rfl
theorem one_er {i j k : Nat} (hd : d ≠ 30) (hs : w.isIn [w_star] = false) (hx : w.isIn [w_distinct] = false) (h : (rd (m + 1)).E (w :: ws) (d + 1) = .err p) : rBare (rd (m + 1)) (wW w_one i :: wW w_op j :: wW w_select k :: w :: ws) d = .err p := by
  have hW : (rd (m + 1)).W (wW w_select k :: w :: ws) (d + 1) = .err p := by
    have h : rE (rd m) (w :: ws) (d + 1) = _ := h
    have hi : rItems (rd m) (w :: ws) (d + 1) = .err p := (no_step (pass_no hs)).trans (bnd_er (item_er h))
    have hq : rSimple (rd m) (wW w_select k :: w :: ws) (d + 1) = .err p := (yes_step (pass_yes rfl rfl rfl)).trans ((bnd_ok (pass_no hx)).trans (bnd_er hi))
    exact (show rWhole (rd m) _ _ = _ from bnd_er hq)
  refine (bare_w rfl).trans ((yes_step (pass_yes rfl rfl rfl)).trans (bnd_er (?_ : rEnclosed (rd (m + 1)) _ _ = .err p)))
  exact (bnd_ok (exp_of (pass_open rfl rfl hd))).trans (bnd_er hW)
theorem one_full {i j : Nat} : rBare R (wW w_one i :: wW w_op j :: ws) 30 = .err j := (bare_w rfl).trans ((yes_step (pass_yes rfl rfl rfl)).trans (bnd_er (bnd_er (exp_er (pass_full rfl rfl)))))
end
/-! ### shells in shells -/
structure Inner (w : Wd) : Prop where
  b : w.begins = true
  s : w.isIn [w_star] = false
  x : w.isIn [w_distinct] = false
theorem sh_head : ∀ (ss : List Sh) (i : Nat), ∃ w ws, shWs ss i = w :: ws ∧ Inner w
  | [], _ => ⟨_, _, rfl, rfl, rfl, rfl⟩
  | .par :: _, _ => ⟨_, _, rfl, rfl, rfl, rfl⟩
  | .cas :: _, _ => ⟨_, _, rfl, rfl, rfl, rfl⟩
  | .coa :: _, _ => ⟨_, _, rfl, rfl, rfl, rfl⟩
  | .one :: _, _ => ⟨_, _, rfl, rfl, rfl, rfl⟩
  | .cnt :: _, _ => ⟨_, _, rfl, rfl, rfl, rfl⟩
  | .sum :: _, _ => ⟨_, _, rfl, rfl, rfl, rfl⟩
/-- how a reading of these shells ends -/
def ShEnds (ss : List Sh) (n : Nat) (d : Int) (i : Nat) (us : List Wd) : Prop := match shDue ss d i with
  | none => ∃ t, isE t ∧ (rd n).E (shWs ss i ++ us) d = .ok t us d
  | some p => (rd n).E (shWs ss i ++ us) d = .err p
theorem sh_read : ∀ (ss : List Sh) (n : Nat) (d : Int) (i : Nat) (u : Wd) (us : List Wd), (n : Int) + d = 33 → d ≤ 30 → Ends u → u.isIn [w_dot] = false → ShEnds ss n d i (u :: us)
  | [], n, d, i, u, us, hn, hd, hu, hdot => by
    obtain ⟨m, rfl⟩ : ∃ m, n = m + 1 := ⟨n - 1, by omega⟩
    exact ⟨tag w_column [.non, .str [120]], ⟨_, _, rfl, fun _ => ⟨_, _, rfl⟩⟩, show rE (rd m) _ d = _ from e_bare rfl (bare_x hdot) hu⟩
  | s :: ss, n, d, i, u, us, hn, hd, hu, _ => by
    obtain ⟨m, rfl⟩ : ∃ m, n = m + 1 + 1 := ⟨n - 2, by omega⟩
    obtain ⟨w, ws, ew, W⟩ := sh_head ss (i + s.lenA)
    have eL : shWs (s :: ss) i ++ u :: us = s.pre i ++ (shWs ss (i + s.lenA) ++ (s.suf (i + s.lenA + shLen ss) ++ u :: us)) := by simp only [shWs, List.append_assoc]
    by_cases h30 : d = 30
    · subst h30
      have e : shDue (s :: ss) 30 i = some (i + s.opn) := rfl
      unfold ShEnds
      rw [e]
      rw [eL]
      cases s
      · exact (show rE (rd (m + 1)) (wW w_op i :: (shWs ss (i + Sh.par.lenA) ++ (Sh.par.suf (i + Sh.par.lenA + shLen ss) ++ u :: us))) 30 = .err i from e_bareE rfl (bare_par.trans paren_full))
      · exact (show rE (rd (m + 1)) (wW w_case i :: wW w_when (i + 5) :: wN [120] (i + 10) :: wW w_eq (i + 12) :: wI 1 (i + 14) :: wW w_then (i + 16) :: (shWs ss (i + Sh.cas.lenA) ++ (Sh.cas.suf (i + Sh.cas.lenA + shLen ss) ++ u :: us))) 30 = .err i from e_bareE rfl cas_full)
      · exact (show rE (rd (m + 1)) (wW w_coalesce i :: wW w_op (i + 8) :: wI 1 (i + 9) :: wW w_comma (i + 10) :: (shWs ss (i + Sh.coa.lenA) ++ (Sh.coa.suf (i + Sh.coa.lenA + shLen ss) ++ u :: us))) 30 = .err (i + 8) from e_bareE rfl coa_full)
      · exact (show rE (rd (m + 1)) (wW w_one i :: wW w_op (i + 4) :: wW w_select (i + 5) :: (shWs ss (i + Sh.one.lenA) ++ (Sh.one.suf (i + Sh.one.lenA + shLen ss) ++ u :: us))) 30 = .err (i + 4) from e_bareE rfl one_full)
      · exact (show rE (rd (m + 1)) (wW w_count i :: wW w_op (i + 5) :: (shWs ss (i + Sh.cnt.lenA) ++ (Sh.cnt.suf (i + Sh.cnt.lenA + shLen ss) ++ u :: us))) 30 = .err (i + 5) from e_bareE rfl cnt_full)
      · exact (show rE (rd (m + 1)) (wW w_sum i :: wW w_op (i + 3) :: wN [120] (i + 4) :: wW w_cl (i + 5) :: wW w_plus (i + 7) :: wW w_op (i + 9) :: (shWs ss (i + Sh.sum.lenA) ++ (Sh.sum.suf (i + Sh.sum.lenA + shLen ss) ++ u :: us))) 30 = .err (i + 3) from e_sumE rfl (sum_er rfl sum_full))
    · have e : shDue (s :: ss) d i = shDue ss (d + 1) (i + s.lenA) := if_neg h30
      have hx : ∀ {k l : Nat} {vs : List Wd}, (rd (m + 1)).E (wN [120] k :: wW w_cl l :: vs) (d + 1) = .ok (tag w_column [.non, .str [120]]) (wW w_cl l :: vs) (d + 1) := fun {k l vs} => show rE (rd m) (wN [120] k :: wW w_cl l :: vs) (d + 1) = _ from e_bare rfl (bare_x rfl) (ends_of rfl)
      have h1 : ∀ {k l : Nat} {vs : List Wd}, (rd (m + 1)).E (wI 1 k :: wW w_comma l :: vs) (d + 1) = .ok (tag w_value [.int 1]) (wW w_comma l :: vs) (d + 1) := fun {k l vs} => show rE (rd m) (wI 1 k :: wW w_comma l :: vs) (d + 1) = _ from e_bare rfl bare_i (ends_of rfl)
      have go : ∀ (v : Wd) (vs : List Wd), Ends v → v.isIn [w_dot] = false → ShEnds ss (m + 1) (d + 1) (i + s.lenA) (v :: vs) := fun v vs hv hvd => sh_read ss (m + 1) (d + 1) (i + s.lenA) v vs (by omega) (by omega) hv hvd
      unfold ShEnds
      rw [e, eL]
      unfold ShEnds at go
      cases hdue : shDue ss (d + 1) (i + s.lenA) with
      | none =>
        rw [hdue] at go
        cases s
        · obtain ⟨t, ht, h⟩ := go (wW w_cl _) (u :: us) (ends_of rfl) rfl
          have g := bare_par.trans (paren_ok (R := rd (m + 1)) (i := i) h30 h)
          exact ⟨t, ht, e_bare (R := rd (m + 1)) rfl g hu⟩
        · obtain ⟨t, ht, h⟩ := go (wW w_end _) (u :: us) (ends_of rfl) rfl
          obtain ⟨y, hy, g⟩ := cas_ok (R := rd (m + 1)) (i := i) (e_cmp (R := rd m)) h30 h
          exact ⟨y, hy, e_bare (R := rd (m + 1)) rfl g hu⟩
        · obtain ⟨t, ht, h⟩ := go (wW w_cl _) (u :: us) (ends_of rfl) rfl
          obtain ⟨y, hy, g⟩ := coa_ok (R := rd (m + 1)) (i := i) h30 h1 h
          exact ⟨y, hy, e_bare (R := rd (m + 1)) rfl g hu⟩
        · obtain ⟨t, ht, h⟩ := go (wW w_as _) (wN [121] _ :: wW w_from _ :: wN [116] _ :: wW w_cl _ :: u :: us) (ends_of rfl) rfl
          rw [ew] at h ⊢
          obtain ⟨y, hy, g⟩ := one_ok (m := m) (i := i) h30 W.s W.x ht h
          exact ⟨y, hy, e_bare (R := rd (m + 1)) rfl g hu⟩
        · obtain ⟨t, ht, h⟩ := go (wW w_cl _) (u :: us) (ends_of rfl) rfl
          rw [ew] at h ⊢
          obtain ⟨y, hy, g⟩ := cnt_ok (R := rd (m + 1)) (i := i) h30 W.s W.x h
          exact ⟨y, hy, e_bare (R := rd (m + 1)) rfl g hu⟩
        · obtain ⟨t, ht, h⟩ := go (wW w_cl _) (u :: us) (ends_of rfl) rfl
          obtain ⟨y, hy, g⟩ := plus_ok (R := rd (m + 1)) (i := i) hx h30 h hu
          exact ⟨y, hy, e_sum (R := rd (m + 1)) rfl g hu⟩
      | some p =>
        rw [hdue] at go
        cases s
        · have h := go (wW w_cl (i + Sh.par.lenA + shLen ss)) (u :: us) (ends_of rfl) rfl
          exact e_bareE (R := rd (m + 1)) rfl (bare_par.trans (paren_er h30 h))
        · have h := go (wW w_end (i + Sh.cas.lenA + shLen ss + 1)) (u :: us) (ends_of rfl) rfl
          exact e_bareE (R := rd (m + 1)) rfl (cas_er (e_cmp (R := rd m)) h30 h)
        · have h := go (wW w_cl (i + Sh.coa.lenA + shLen ss)) (u :: us) (ends_of rfl) rfl
          exact e_bareE (R := rd (m + 1)) rfl (coa_er h30 h1 h)
        · have h := go (wW w_as (i + Sh.one.lenA + shLen ss + 1)) (wN [121] (i + Sh.one.lenA + shLen ss + 4) :: wW w_from (i + Sh.one.lenA + shLen ss + 6) :: wN [116] (i + Sh.one.lenA + shLen ss + 11) :: wW w_cl (i + Sh.one.lenA + shLen ss + 12) :: u :: us) (ends_of rfl) rfl
          rw [ew] at h ⊢
          exact e_bareE (R := rd (m + 1)) rfl (one_er h30 W.s W.x h)
        · have h := go (wW w_cl (i + Sh.cnt.lenA + shLen ss)) (u :: us) (ends_of rfl) rfl
          rw [ew] at h ⊢
          exact e_bareE (R := rd (m + 1)) rfl (cnt_er h30 W.s W.x h)
        · have h := go (wW w_cl (i + Sh.sum.lenA + shLen ss)) (u :: us) (ends_of rfl) rfl
          exact e_sumE (R := rd (m + 1)) rfl (plus_er hx h30 h)
end Ask
namespace Ask
open PySem L2 PySem.Spec PyProof.Rows PySem.AskX LamX NdefX

/-! ### texts of words, spaces and single signs -/
inductive It
  | sp
  | run (z : List Nat)
  | sig (c : Nat)
def It.txt : It → List Nat
  | .sp => [32]
  | .run z => z
  | .sig c => [c]
def itxt : List It → List Nat
  | [] => []
  | x :: r => x.txt ++ itxt r
def iwds : List It → Nat → List Wd
  | [], _ => []
  | .sp :: r, i => iwds r (i + 1)
  | .run z :: r, i => ⟨(runWd z).1, (runWd z).2, i⟩ :: iwds r (i + z.length)
  | .sig c :: r, i => wW [c] i :: iwds r (i + 1)
def notRun : List It → Bool
  | .run _ :: _ => false
  | _ => true
def signs1 : List Nat := [40, 41, 44, 43, 61]
def iok : List It → Bool
  | [] => true
  | .sp :: r => iok r
  | .run z :: r => (!z.isEmpty && z.all runC && !decide ((runWd z).1 = .wrong)) && notRun r && iok r
  | .sig c :: r => decide (c ∈ signs1) && iok r
theorem itxt_app : ∀ a b : List It, itxt (a ++ b) = itxt a ++ itxt b
  | [], _ => rfl
  | x :: a, b => by show x.txt ++ itxt (a ++ b) = x.txt ++ itxt a ++ itxt b; rw [itxt_app a b, List.append_assoc]
theorem iwds_app : ∀ (a b : List It) (i : Nat), iwds (a ++ b) i = iwds a i ++ iwds b (i + (itxt a).length)
  | [], _, _ => rfl
  | .sp :: a, b, i => by
    show iwds (a ++ b) (i + 1) = iwds a (i + 1) ++ _
    rw [iwds_app a b (i + 1)]
    have e : i + 1 + (itxt a).length = i + (itxt (.sp :: a)).length := by show _ = i + ([32] ++ itxt a).length; rw [List.length_append]; simp only [List.length_singleton]; omega
    rw [e]
  | .run z :: a, b, i => by
    show _ :: iwds (a ++ b) (i + z.length) = _ :: (iwds a (i + z.length) ++ _)
    rw [iwds_app a b (i + z.length)]
    have e : i + z.length + (itxt a).length = i + (itxt (.run z :: a)).length := by show _ = i + (z ++ itxt a).length; rw [List.length_append]; omega
    rw [e]
  | .sig c :: a, b, i => by
    show _ :: iwds (a ++ b) (i + 1) = _ :: (iwds a (i + 1) ++ _)
    rw [iwds_app a b (i + 1)]
    have e : i + 1 + (itxt a).length = i + (itxt (.sig c :: a)).length := by show _ = i + ([c] ++ itxt a).length; rw [List.length_append]; simp only [List.length_singleton]; omega
    rw [e]
def lastRun : List It → Bool
  | [] => false
  | [.run _] => true
  | _ :: r => lastRun r
theorem iok_app : ∀ {a b : List It}, iok a = true → iok b = true → (lastRun a = false ∨ notRun b = true) → iok (a ++ b) = true
  | [], b, _, h, _ => h
  | .sp :: a, b, h1, h2, h3 => iok_app (a := a) h1 h2 (h3.imp_left fun z => by cases a with | nil => rfl | cons _ _ => exact z)
  | .sig c :: a, b, h1, h2, h3 => by
    obtain ⟨k1, k2⟩ := Bool.and_eq_true_iff.mp h1
    exact Bool.and_eq_true_iff.mpr ⟨k1, iok_app (a := a) k2 h2 (h3.imp_left fun z => by cases a with | nil => rfl | cons _ _ => exact z)⟩
  | .run z :: a, b, h1, h2, h3 => by
    obtain ⟨k, k3⟩ := Bool.and_eq_true_iff.mp h1
    obtain ⟨k1, k2⟩ := Bool.and_eq_true_iff.mp k
    refine Bool.and_eq_true_iff.mpr ⟨Bool.and_eq_true_iff.mpr ⟨k1, ?_⟩, iok_app (a := a) k3 h2 ?_⟩
    · cases a with
      | nil =>
        rcases h3 with h3 | h3
        · cases h3
        · exact h3
      | cons y a => cases y <;> exact k2
    · cases a with
      | nil => exact .inl rfl
      | cons y a => exact h3.imp_left fun z => z
theorem sign_one {c : Nat} (h : c ∈ signs1) (r : List Nat) : sigN.find? (fun s => decide ((c :: r).take s.length = s)) = some [c] := by
  simp only [signs1, List.mem_cons, List.not_mem_nil, or_false] at h
  rcases h with rfl | rfl | rfl | rfl | rfl <;> simp [sigN, List.find?, w_ne, w_le, w_ge, w_op, w_cl, w_comma, w_dot, w_star, w_plus, w_minus, w_eq, w_lt, w_gt]
theorem take_run : ∀ {z r : List Nat}, z.all runC = true → (∀ c t, r = c :: t → runC c = false) → (z ++ r).takeWhile runC = z
  | [], [], _, _ => rfl
  | [], c :: t, _, h => by rw [List.nil_append, List.takeWhile_cons, h c t rfl]; rfl
  | c :: z, r, h, h2 => by
    obtain ⟨k1, k2⟩ := Bool.and_eq_true_iff.mp (show (runC c && z.all runC) = true from h)
    rw [List.cons_append, List.takeWhile_cons, k1]
    exact congrArg (c :: ·) (take_run k2 h2)
theorem next_no {r : List It} (h : notRun r = true) (k : iok r = true) : ∀ c t, itxt r = c :: t → runC c = false := by
  intro c t e
  cases r with
  | nil => cases e
  | cons x r =>
    cases x with
    | sp => cases e; rfl
    | run z => cases h
    | sig y =>
      have k := of_decide_eq_true (Bool.and_eq_true_iff.mp k).1
      have e : y :: itxt r = c :: t := e
      cases e
      simp only [signs1, List.mem_cons, List.not_mem_nil, or_false] at k
      rcases k with rfl | rfl | rfl | rfl | rfl <;> rfl
theorem at_pre (p : List Nat) (c : Nat) (r : List Nat) : (p ++ c :: r)[p.length]? = some c := by simp
theorem drop_pre (p r : List Nat) : (p ++ r).drop p.length = r := by simp
/-- scanning such a text -/
theorem scan_it : ∀ (its : List It) (p : List Nat) (n : Nat), iok its = true → its.length < n → scanW (p ++ itxt its) n p.length = some (iwds its p.length ++ [⟨.fin, .non, (p ++ itxt its).length⟩])
  | [], p, n + 1, _, _ => by
    show scanW (p ++ []) (n + 1) p.length = some [⟨.fin, .non, (p ++ []).length⟩]
    rw [List.append_nil]
    unfold scanW
    rw [List.getElem?_eq_none (Nat.le_refl _)]
  | x :: r, p, n + 1, hk, hn => by
    have hn' : r.length < n := by simpa using hn
    cases x with
    | sp =>
      have e : p ++ itxt (.sp :: r) = (p ++ [32]) ++ itxt r := by simp [itxt, It.txt]
      have ih := scan_it r (p ++ [32]) n hk hn'
      rw [← e, List.length_append] at ih
      unfold scanW
      rw [show (p ++ itxt (.sp :: r))[p.length]? = some 32 from at_pre p 32 (itxt r)]
      show (if (32 : Nat) = 32 ∨ (32 : Nat) = 10 then _ else _) = _
      rw [if_pos (Or.inl rfl)]
      exact ih
    | run z =>
      obtain ⟨k, k3⟩ := Bool.and_eq_true_iff.mp hk
      obtain ⟨k1, k2⟩ := Bool.and_eq_true_iff.mp k
      obtain ⟨k1, kw⟩ := Bool.and_eq_true_iff.mp k1
      obtain ⟨kz, ka⟩ := Bool.and_eq_true_iff.mp k1
      have kw : (runWd z).1 ≠ .wrong := by simpa using kw
      have e : p ++ itxt (.run z :: r) = (p ++ z) ++ itxt r := by simp [itxt, It.txt]
      have ih := scan_it r (p ++ z) n k3 hn'
      rw [← e, List.length_append] at ih
      have hd : (p ++ itxt (.run z :: r)).drop p.length = z ++ itxt r := drop_pre p _
      have htw : (z ++ itxt r).takeWhile runC = z := take_run ka (next_no k2 k3)
      obtain ⟨c, z', rfl⟩ : ∃ c z', z = c :: z' := by
        cases z with
        | nil => cases kz
        | cons c z' => exact ⟨c, z', rfl⟩
      have hc : runC c = true := (Bool.and_eq_true_iff.mp (show (runC c && z'.all runC) = true from ka)).1
      have hat : (p ++ itxt (.run (c :: z') :: r))[p.length]? = some c := at_pre p c (z' ++ itxt r)
      have hw : wordW (p ++ itxt (.run (c :: z') :: r)) p.length = ((runWd (c :: z')).1, (runWd (c :: z')).2, p.length + (c :: z').length) := by
        unfold wordW endR
        rw [hat]
        show (if runC c = true then _ else _) = _
        rw [if_pos hc, hd, htw]
      have nsp : ¬ (c = 32 ∨ c = 10) := by rintro (rfl | rfl) <;> cases hc
      unfold scanW
      rw [hat]
      show (if c = 32 ∨ c = 10 then _ else _) = _
      rw [if_neg nsp, hw, if_neg kw, ih]
      rfl
    | sig y =>
      obtain ⟨k1, k3⟩ := Bool.and_eq_true_iff.mp hk
      have k1 := of_decide_eq_true k1
      have e : p ++ itxt (.sig y :: r) = (p ++ [y]) ++ itxt r := by simp [itxt, It.txt]
      have ih := scan_it r (p ++ [y]) n k3 hn'
      rw [← e, List.length_append] at ih
      have hd : (p ++ itxt (.sig y :: r)).drop p.length = y :: itxt r := drop_pre p _
      have hat : (p ++ itxt (.sig y :: r))[p.length]? = some y := at_pre p y (itxt r)
      have hy : runC y = false ∧ y ≠ 39 ∧ y ≠ 58 ∧ ¬ (y = 32 ∨ y = 10) := by
        simp only [signs1, List.mem_cons, List.not_mem_nil, or_false] at k1
        rcases k1 with rfl | rfl | rfl | rfl | rfl <;> decide
      have hw : wordW (p ++ itxt (.sig y :: r)) p.length = (.word, .str [y], p.length + 1) := by
        unfold wordW
        rw [hat]
        show (if runC y = true then _ else if y = 39 then _ else if y = 58 then _ else signW _ _) = _
        rw [if_neg (by rw [hy.1]; decide), if_neg hy.2.1, if_neg hy.2.2.1]
        unfold signW
        rw [hd, sign_one k1]
        rfl
      unfold scanW
      rw [hat]
      show (if y = 32 ∨ y = 10 then _ else _) = _
      rw [if_neg hy.2.2.2, hw, if_neg (by simp)]
      exact congrArg (Option.map _) ih
  | _, _, 0, _, h => absurd h (Nat.not_lt_zero _)
theorem ilen : ∀ {its : List It}, iok its = true → its.length ≤ (itxt its).length
  | [], _ => Nat.le_refl _
  | .sp :: r, h => by
    have := ilen (its := r) h
    show r.length + 1 ≤ ([32] ++ itxt r).length
    rw [List.length_append]
    simp only [List.length_singleton]
    omega
  | .run z :: r, h => by
    obtain ⟨k, k3⟩ := Bool.and_eq_true_iff.mp h
    have kz := (Bool.and_eq_true_iff.mp (Bool.and_eq_true_iff.mp (Bool.and_eq_true_iff.mp k).1).1).1
    have := ilen (its := r) k3
    show r.length + 1 ≤ (z ++ itxt r).length
    rw [List.length_append]
    cases z with
    | nil => cases kz
    | cons c z => simp only [List.length_cons]; omega
  | .sig c :: r, h => by
    have := ilen (its := r) (Bool.and_eq_true_iff.mp h).2
    show r.length + 1 ≤ ([c] ++ itxt r).length
    rw [List.length_append]
    simp only [List.length_singleton]
    omega
theorem scan_all {its : List It} (h : iok its = true) : scanW (itxt its) ((itxt its).length + 1) 0 = some (iwds its 0 ++ [⟨.fin, .non, (itxt its).length⟩]) :=
  scan_it its [] _ h (Nat.lt_succ_of_le (ilen h))
end Ask
namespace Ask
open PySem L2 PySem.Spec PyProof.Rows PySem.AskX LamX NdefX

/-! ### the texts of the shells -/
def Sh.itA : Sh → List It
  | .par => [.sig 40]
  | .cas => [.run w_case, .sp, .run w_when, .sp, .run [120], .sp, .sig 61, .sp, .run [49], .sp, .run w_then, .sp]
  | .coa => [.run w_coalesce, .sig 40, .run [49], .sig 44, .sp]
  | .one => [.run w_one, .sp, .sig 40, .run w_select, .sp]
  | .cnt => [.run w_count, .sig 40]
  | .sum => [.run w_sum, .sig 40, .run [120], .sig 41, .sp, .sig 43, .sp, .sig 40]
def Sh.itB : Sh → List It
  | .par => [.sig 41]
  | .cas => [.sp, .run w_end]
  | .coa => [.sig 41]
  | .one => [.sp, .run w_as, .sp, .run [121], .sp, .run w_from, .sp, .run [116], .sig 41]
  | .cnt => [.sig 41]
  | .sum => [.sig 41]
def Sh.txA (s : Sh) : List Nat := itxt s.itA
def Sh.txB (s : Sh) : List Nat := itxt s.itB
def shIts : List Sh → List It
  | [] => [.run [120]]
  | s :: ss => s.itA ++ (shIts ss ++ s.itB)
def shA : List Sh → List Nat
  | [] => []
  | s :: ss => s.txA ++ shA ss
def shB : List Sh → List Nat
  | [] => []
  | s :: ss => shB ss ++ s.txB
theorem lenA_eq (s : Sh) : (itxt s.itA).length = s.lenA := by cases s <;> rfl
theorem lenB_eq (s : Sh) : (itxt s.itB).length = s.lenB := by cases s <;> rfl
theorem shIts_txt : ∀ ss : List Sh, itxt (shIts ss) = shA ss ++ 120 :: shB ss
  | [] => rfl
  | s :: ss => by
    show itxt (s.itA ++ (shIts ss ++ s.itB)) = s.txA ++ shA ss ++ 120 :: (shB ss ++ s.txB)
    rw [itxt_app, itxt_app, shIts_txt ss]
    simp only [Sh.txA, Sh.txB, List.append_assoc, List.cons_append]
theorem shIts_len : ∀ ss : List Sh, (itxt (shIts ss)).length = shLen ss
  | [] => rfl
  | s :: ss => by
    show (itxt (s.itA ++ (shIts ss ++ s.itB))).length = s.lenA + shLen ss + s.lenB
    rw [itxt_app, itxt_app, List.length_append, List.length_append, shIts_len ss, lenA_eq, lenB_eq]
    omega
theorem pre_eq (s : Sh) (i : Nat) : iwds s.itA i = s.pre i := by
  cases s <;> rfl
theorem suf_eq (s : Sh) (i : Nat) : iwds s.itB i = s.suf i := by
  cases s <;> rfl
theorem shIts_wds : ∀ (ss : List Sh) (i : Nat), iwds (shIts ss) i = shWs ss i
  | [], _ => rfl
  | s :: ss, i => by
    show iwds (s.itA ++ (shIts ss ++ s.itB)) i = s.pre i ++ (shWs ss (i + s.lenA) ++ s.suf (i + s.lenA + shLen ss))
    rw [iwds_app, iwds_app, lenA_eq, shIts_len, pre_eq, suf_eq, shIts_wds ss]
theorem okA (s : Sh) : iok s.itA = true ∧ lastRun s.itA = false := by cases s <;> decide +kernel
theorem okB (s : Sh) : iok s.itB = true ∧ notRun s.itB = true := by cases s <;> decide +kernel
theorem nr_app {a b : List It} (h : a ≠ []) (k : notRun a = true) : notRun (a ++ b) = true := by
  cases a with
  | nil => exact absurd rfl h
  | cons x a => cases x <;> first | rfl | exact k
theorem shIts_ok : ∀ ss : List Sh, iok (shIts ss) = true
  | [] => by decide +kernel
  | s :: ss => iok_app (okA s).1 (iok_app (shIts_ok ss) (okB s).1 (.inr (okB s).2)) (.inl (okA s).2)
/-- the whole text -/
def ahead15 : List It := [.run w_select, .sp, .sig 40, .run [120], .sig 41, .sp, .run w_as, .sp, .run [97], .sig 44, .sp]
def behind15 : List It := [.sp, .run w_as, .sp, .run [98], .sp, .run w_from, .sp, .run [116]]
def its15 (ss : List Sh) : List It := ahead15 ++ (shIts ss ++ behind15)
def txt15 (ss : List Sh) : List Nat := itxt ahead15 ++ (shA ss ++ 120 :: shB ss) ++ itxt behind15
theorem its15_txt (ss : List Sh) : itxt (its15 ss) = txt15 ss := by
  unfold its15 txt15
  rw [itxt_app, itxt_app, shIts_txt]
  simp only [List.append_assoc]
theorem its15_ok (ss : List Sh) : iok (its15 ss) = true := iok_app (by decide +kernel) (iok_app (shIts_ok ss) (by decide +kernel) (.inr rfl)) (.inl rfl)
/-- where the text stops being a question: none if it is one -/
def Tells (r : Rs Tr) : Option Nat → Prop
  | none => ∃ t us e, r = .ok t us e
  | some p => r = .err p
theorem fin_ok {N : Nat} {us : List Wd} {d : Int} : rFinish (⟨.fin, .non, N⟩ :: us) d = .ok () (⟨.fin, .non, N⟩ :: us) d := rfl
theorem read15 (ss : List Sh) : Tells (readQ (txt15 ss)) (shDue ss 0 17) := by
  have hs := scan_all (its15_ok ss)
  rw [its15_txt] at hs
  unfold readQ
  rw [hs]
  show Tells (rQuestion _ 0) _
  obtain ⟨N, hN⟩ : ∃ N, N = (txt15 ss).length := ⟨_, rfl⟩
  rw [← hN]
  have ew : iwds (its15 ss) 0 ++ [⟨.fin, .non, N⟩] = wW w_select 0 :: wW w_op 7 :: wN [120] 8 :: wW w_cl 9 :: wW w_as 11 :: wN [97] 14 :: wW w_comma 15 :: (shWs ss 17 ++ (wW w_as (17 + shLen ss + 1) :: wN [98] (17 + shLen ss + 4) :: wW w_from (17 + shLen ss + 6) :: wN [116] (17 + shLen ss + 11) :: [⟨.fin, .non, N⟩])) := by
    unfold its15
    rw [iwds_app, iwds_app, shIts_wds, shIts_len, List.append_assoc, List.append_assoc]
    rfl
  rw [ew]
  generalize hW : shWs ss 17 ++ (wW w_as (17 + shLen ss + 1) :: wN [98] (17 + shLen ss + 4) :: wW w_from (17 + shLen ss + 6) :: wN [116] (17 + shLen ss + 11) :: [⟨.fin, .non, N⟩]) = W
  have hr := sh_read ss 33 0 17 (wW w_as (17 + shLen ss + 1)) (wN [98] (17 + shLen ss + 4) :: wW w_from (17 + shLen ss + 6) :: wN [116] (17 + shLen ss + 11) :: [⟨.fin, .non, N⟩]) (by decide) (by decide) (ends_of rfl) rfl
  unfold ShEnds at hr
  rw [hW] at hr
  have hp : (rd 32).E (wN [120] 8 :: wW w_cl 9 :: wW w_as 11 :: wN [97] 14 :: wW w_comma 15 :: W) (0 + 1) = .ok (tag w_column [.non, .str [120]]) (wW w_cl 9 :: wW w_as 11 :: wN [97] 14 :: wW w_comma 15 :: W) (0 + 1) := show rE (rd 31) (wN [120] 8 :: wW w_cl 9 :: wW w_as 11 :: wN [97] 14 :: wW w_comma 15 :: W) (0 + 1) = _ from e_bare rfl (bare_x rfl) (ends_of rfl)
  have hi1 : rItem (rd 32) (wW w_op 7 :: wN [120] 8 :: wW w_cl 9 :: wW w_as 11 :: wN [97] 14 :: wW w_comma 15 :: W) 0 = .ok (.tup [tag w_column [.non, .str [120]], .str [97]]) (wW w_comma 15 :: W) 0 :=
    item_ok ⟨_, _, rfl, fun _ => ⟨_, _, rfl⟩⟩ (e_bare rfl (bare_par.trans (paren_ok (by decide) hp)) (ends_of rfl))
  have D : Done ⟨.fin, .non, N⟩ := ⟨rfl, rfl, rfl, rfl, rfl, rfl, rfl, rfl, rfl⟩
  cases hd : shDue ss 0 17 with
  | none =>
    rw [hd] at hr
    obtain ⟨t, ht, hr⟩ := hr
    have hr : rE (rd 32) W 0 = _ := hr
    have hi2 : rItems (rd 32) (wW w_op 7 :: wN [120] 8 :: wW w_cl 9 :: wW w_as 11 :: wN [97] 14 :: wW w_comma 15 :: W) 0 = .ok (.tup [.tup [tag w_column [.non, .str [120]], .str [97]], .tup [t, .str [98]]]) (wW w_from (17 + shLen ss + 6) :: wN [116] (17 + shLen ss + 11) :: [⟨.fin, .non, N⟩]) 0 :=
      (no_step (pass_no rfl)).trans ((bnd_ok hi1).trans ((bnd_ok (lop_one (pass_yes rfl rfl rfl) ((bnd_ok (item_ok ht hr)).trans rfl) (pass_no rfl))).trans rfl))
    refine ⟨_, _, _, (bnd_ok (show rWhole (rd 32) _ _ = _ from (bnd_ok (show rSimple (rd 32) _ _ = _ from (yes_step (pass_yes rfl rfl rfl)).trans ((bnd_ok (pass_no rfl)).trans ((bnd_ok hi2).trans (rest_ok D false))))).trans (behind_ok D))).trans ((bnd_ok fin_ok).trans rfl)⟩
  | some p =>
    rw [hd] at hr
    have hr : rE (rd 32) W 0 = _ := hr
    have hi2 : rItems (rd 32) (wW w_op 7 :: wN [120] 8 :: wW w_cl 9 :: wW w_as 11 :: wN [97] 14 :: wW w_comma 15 :: W) 0 = .err p :=
      (no_step (pass_no rfl)).trans ((bnd_ok hi1).trans (bnd_er (lop_oneE (pass_yes rfl rfl rfl) (bnd_er (item_er hr)))))
    exact bnd_er (show rWhole (rd 32) _ _ = _ from bnd_er (show rSimple (rd 32) _ _ = _ from (yes_step (pass_yes rfl rfl rfl)).trans ((bnd_ok (pass_no rfl)).trans (bnd_er hi2))))
end Ask
namespace Ask
open PySem L2 PySem.Spec PyProof.Rows PySem.AskX LamX NdefX

/-! ### the law's own look: character by character -/
def pref : List Nat → List Nat → Bool
  | [], _ => true
  | _ :: _, [] => false
  | a :: as, b :: bs => Nat.beq a b && pref as bs
def caseC : List Nat := [99, 97, 115, 101, 32]
def endC : List Nat := [32, 101, 110, 100]
def opC (l : List Nat) : Bool := pref [40] l || pref caseC l
def clC (l : List Nat) : Bool := pref [41] l || pref endC l
def stepN (o c : Bool) (n : Int) : Int := match o, c with
  | true, _ => n + 1
  | false, true => n - 1
  | false, false => n
def stepD (o : Bool) (at_ : Nat) (n : Int) (due : Option Nat) : Option Nat := match o with
  | true => if n = 30 ∧ due = none then some at_ else due
  | false => due
def goC : List Nat → Nat → Int → Option Nat → Int × Option Nat
  | [], _, n, due => (n, due)
  | c :: r, i, n, due => goC r (i + 1) (stepN (opC (c :: r)) (clC (c :: r)) n) (stepD (opC (c :: r)) i n due)
theorem goC_cons (c : Nat) (r : List Nat) (i : Nat) (n : Int) (due : Option Nat) : goC (c :: r) i n due = goC r (i + 1) (stepN (opC (c :: r)) (clC (c :: r)) n) (stepD (opC (c :: r)) i n due) := rfl
theorem goC_A (s : Sh) (X : List Nat) (i : Nat) (d : Int) (due : Option Nat) (h : pref [101, 110, 100] X = false) : goC (s.txA ++ X) i d due = goC X (i + s.lenA) (d + 1) (if d = 30 ∧ due = none then some (i + s.opn) else due) := by
  cases s
  · rfl
  · show goC ([99, 97, 115, 101, 32, 119, 104, 101, 110, 32, 120, 32, 61, 32, 49, 32, 116, 104, 101, 110, 32] ++ X) i d due = _
    have e : clC (32 :: X) = false := h
    have e2 : opC (32 :: X) = false := rfl
    show goC (32 :: X) (i + 20) (d + 1) (if d = 30 ∧ due = none then some i else due) = _
    rw [goC_cons, e, e2]
    rfl
  · have e : clC (32 :: X) = false := h
    have e2 : opC (32 :: X) = false := rfl
    show goC (32 :: X) (i + 11) (d + 1) (if d = 30 ∧ due = none then some (i + 8) else due) = _
    rw [goC_cons, e, e2]
    rfl
  · have e : clC (32 :: X) = false := h
    have e2 : opC (32 :: X) = false := rfl
    show goC (32 :: X) (i + 11) (d + 1) (if d = 30 ∧ due = none then some (i + 4) else due) = _
    rw [goC_cons, e, e2]
    rfl
  · rfl
  · show goC X (i + 10) (d + 1 - 1 + 1) (if d + 1 - 1 = 30 ∧ (if d = 30 ∧ due = none then some (i + 3) else due) = none then some (i + 9) else (if d = 30 ∧ due = none then some (i + 3) else due)) = goC X (i + 10) (d + 1) (if d = 30 ∧ due = none then some (i + 3) else due)
    rw [show d + 1 - 1 = d by omega]
    by_cases q : d = 30 ∧ due = none
    · rw [if_pos q, if_neg (by simp)]
    · rw [if_neg q, if_neg q]
theorem goC_B (s : Sh) (X : List Nat) (i : Nat) (d : Int) (due : Option Nat) : goC (s.txB ++ X) i (d + 1) due = goC X (i + s.lenB) d due := by
  have e : d + 1 - 1 = d := by omega
  cases s
  · show goC X (i + 1) (d + 1 - 1) due = _; rw [e]; rfl
  · show goC X (i + 4) (d + 1 - 1) due = _; rw [e]; rfl
  · show goC X (i + 1) (d + 1 - 1) due = _; rw [e]; rfl
  · show goC X (i + 13) (d + 1 - 1) due = _; rw [e]; rfl
  · show goC X (i + 1) (d + 1 - 1) due = _; rw [e]; rfl
  · show goC X (i + 1) (d + 1 - 1) due = _; rw [e]; rfl
def shT (ss : List Sh) : List Nat := shA ss ++ 120 :: shB ss
theorem shT_cons (s : Sh) (ss : List Sh) (X : List Nat) : shT (s :: ss) ++ X = s.txA ++ (shT ss ++ (s.txB ++ X)) := by
  show (s.txA ++ shA ss) ++ 120 :: (shB ss ++ s.txB) ++ X = s.txA ++ ((shA ss ++ 120 :: shB ss) ++ (s.txB ++ X))
  simp only [List.append_assoc, List.cons_append]
theorem shT_head (ss : List Sh) (X : List Nat) : pref [101, 110, 100] (shT ss ++ X) = false := by
  cases ss with
  | nil => rfl
  | cons s ss => rw [shT_cons]; cases s <;> rfl
theorem due_or : ∀ (ss : List Sh) (d : Int) (i : Nat), d > 30 → shDue ss d i = none
  | [], _, _, _ => rfl
  | s :: ss, d, i, h => (if_neg (by omega)).trans (due_or ss (d + 1) (i + s.lenA) (by omega))
theorem goC_T : ∀ (ss : List Sh) (X : List Nat) (i : Nat) (d : Int) (due : Option Nat), goC (shT ss ++ X) i d due = goC X (i + shLen ss) d (match due with | some p => some p | none => shDue ss d i)
  | [], X, i, d, due => by cases due <;> rfl
  | s :: ss, X, i, d, due => by
    rw [shT_cons, goC_A s _ _ _ _ (shT_head _ _), goC_T ss, goC_B s]
    have e : i + s.lenA + shLen ss + s.lenB = i + shLen (s :: ss) := by show _ = i + (s.lenA + shLen ss + s.lenB); omega
    rw [e]
    cases due with
    | some p => simp
    | none =>
      by_cases h : d = 30
      · rw [if_pos ⟨h, rfl⟩, show shDue (s :: ss) d i = some (i + s.opn) from if_pos h]
      · rw [if_neg (fun z => h z.1), show shDue (s :: ss) d i = shDue ss (d + 1) (i + s.lenA) from if_neg h]
theorem go15 (ss : List Sh) : goC (txt15 ss) 0 0 none = (0, shDue ss 0 17) := by
  show goC (itxt ahead15 ++ (shA ss ++ 120 :: shB ss) ++ itxt behind15) 0 0 none = _
  have e : itxt ahead15 ++ (shA ss ++ 120 :: shB ss) ++ itxt behind15 = [115, 101, 108, 101, 99, 116, 32, 40, 120, 41, 32, 97, 115, 32, 97, 44] ++ (32 :: (shT ss ++ itxt behind15)) := by
    show [115, 101, 108, 101, 99, 116, 32, 40, 120, 41, 32, 97, 115, 32, 97, 44, 32] ++ shT ss ++ itxt behind15 = _
    simp only [List.append_assoc, List.cons_append, List.nil_append]
  rw [e]
  have e1 : clC (32 :: (shT ss ++ itxt behind15)) = false := shT_head ss _
  have e2 : opC (32 :: (shT ss ++ itxt behind15)) = false := rfl
  show goC (32 :: (shT ss ++ itxt behind15)) 16 0 none = _
  rw [goC_cons, e1, e2]
  show goC (shT ss ++ itxt behind15) 17 0 none = _
  rw [goC_T]
  rfl
theorem op_cl {l : List Nat} (h : opC l = true) : clC l = false := by
  cases l with
  | nil => cases h
  | cons c r =>
    have h : (Nat.beq 40 c && true || Nat.beq 99 c && _) = true := h
    rw [Bool.and_true, Bool.or_eq_true] at h
    show (Nat.beq 41 c && true || Nat.beq 32 c && _) = false
    rcases h with h | h
    · have e : 40 = c := Nat.eq_of_beq_eq_true h
      subst e
      rfl
    · have e : 99 = c := Nat.eq_of_beq_eq_true (Bool.and_eq_true_iff.mp h).1
      subst e
      rfl
end Ask
namespace Ask
open PySem L2 PySem.Spec PyProof.Rows PySem.AskX LamX NdefX

def repC (c n : Nat) : List Nat := List.replicate n c
def repL (l : List Nat) : Nat → List Nat
  | 0 => []
  | n + 1 => l ++ repL l n
/-! ### texts, so many times -/
theorem fold_rep (l : List Nat) : ∀ (n : Nat) (acc : Array Nat), (List.replicate n l.toArray).foldl (· ++ ·) acc = acc ++ (repL l n).toArray
  | 0, acc => by simp [repL]
  | n + 1, acc => by
    rw [List.replicate_succ, List.foldl_cons, fold_rep l n]
    simp [repL]
theorem repL_len (l : List Nat) : ∀ n, (repL l n).length = n * l.length
  | 0 => by simp [repL]
  | n + 1 => by rw [repL, List.length_append, repL_len l n, Nat.succ_mul]; omega
theorem repL_one (c : Nat) : ∀ n, repL [c] n = repC c n
  | 0 => rfl
  | n + 1 => by show c :: repL [c] n = _; rw [repL_one c n]; rfl
/-- a text of few signs, n times -/
def rMulL : R2 := fun x y H Q => ∃ (l : List Nat) (n : Nat), x = .str (So l) ∧ y = .int n ∧ l ≠ [] ∧ l.length ≤ 100 ∧ n ≤ 10000 ∧ Q (.str (So (repL l n))) H
theorem op_mulL {X : Cx} : OpR X (binaryOp .Mult) rMulL := by
  intro pins s σ H x y v u Q I rx ry h
  obtain ⟨l, n, rfl, rfl, hne, hl, hn, q⟩ := h
  obtain ⟨t, rfl⟩ := rx
  obtain ⟨t', rfl⟩ := ry
  have hl0 : 0 < l.length := List.length_pos_iff.mpr hne
  have hz : (So l).length = l.length := rfl
  refine PySem.P.mul_str ?_ (fun h1 _ => ?_) (fun _ _ => ?_) ?_
  · rw [decide_eq_false (by omega : ¬ (n : Int) < -(2 ^ 63)), decide_eq_false (by omega : ¬ (n : Int) ≥ 2 ^ 63)]
    rfl
  · have h2 : (l.length : Int) ≤ (2 ^ 63 - 1) / (n : Int) := by
      rw [Int.le_ediv_iff_mul_le (by omega)]
      have : l.length * n ≤ 100 * 10000 := Nat.mul_le_mul hl hn
      have h3 : ((l.length * n : Nat) : Int) ≤ 1000000 := by omega
      rw [Int.natCast_mul] at h3
      omega
    rw [hz]
    omega
  · refine decide_eq_false ?_
    have : l.length * n ≤ 100 * 10000 := Nat.mul_le_mul hl hn
    show ¬ (So l).length * (n : Int).toNat > sizeLine
    rw [hz, Int.toNat_natCast, sizeLine_eq]
    omega
  · by_cases h0 : n = 0
    · subst h0
      rw [if_pos (by decide)]
      exact ⟨by decide, .str _, H, I.tok _, ⟨_, rfl⟩, q⟩
    · rw [if_neg (by omega : ¬ (n : Int) < 1)]
      by_cases h1 : n = 1
      · subst h1
        rw [if_pos (by rfl)]
        refine ⟨.str (So l), H, I, ⟨_, rfl⟩, ?_⟩
        have e : repL l 1 = l := by simp [repL]
        rw [e] at q
        exact q
      · have e1 : ((n : Int) == 1) = false := beq_eq_false_iff_ne.mpr (by omega)
        have e2 : ((So l).length == 0) = false := beq_eq_false_iff_ne.mpr (by rw [hz]; omega)
        rw [e1, e2, if_neg (by decide)]
        have e : (⟨(List.replicate (n : Int).toNat (So l).cps).foldl (· ++ ·) #[]⟩ : Str) = So (repL l n) := by
          rw [Int.toNat_natCast]
          exact congrArg Str.mk ((fold_rep l n #[]).trans (by simp))
        refine ⟨?_, .str (So (repL l n)), H, I.tok _, ⟨s.toks, ?_⟩, q⟩
        · rw [e]
          show (repL l n).length ≤ _
          rw [repL_len]
          have : n * l.length ≤ 10000 * 100 := Nat.mul_le_mul hn hl
          exact Nat.le_trans this (by decide)
        · rw [e]
/-! ### _law_told -/
def oV : Option Nat → V
  | none => .non
  | some p => .int p
def spTold : Sp := fun vs H Q _ => ∃ (cs : List Nat) (o : Option Nat), vs = [.str (So cs)] ∧ cs.length ≤ 9999 ∧ Tells (readQ cs) o ∧ ∀ H', Same H H' → Q (oV o) H'
section
variable {P : Program} {w : World} {K : PySem.W.Frag} {mg : Str → Option Value} {base : Heap} {CC CN : Addr} {f : Addr} {fd : FuncData}
abbrev n_told : List Str := ["_law_text", "e"]
theorem sc_told : FnScope n_told ["_law_text"] (defScope sLawTold) := ⟨rfl, rfl, rfl, by decide +kernel, rfl, by decide +kernel, by decide +kernel⟩
theorem ok_told (F : Fun K "_law_told" "_law_told" sLawTold f fd) (ER : ErW P w K mg base CN "NoQuestion" "place") (DQ : DnM P w K mg base 628 "read_question" (spQ K CN)) : FnOk P w K mg base CX0 229 f fd ["_law_text"] spTold := by
  refine F.ok sc_told (fun vs H Q E z => by obtain ⟨_, _, e, _⟩ := z; rw [e]; rfl) (fun cdv A outer s H vs Q E hr h => ?_)
  have hrm : Rm 628 _ := Rm.of hr (by decide)
  refine ⟨_, pss_cons (ps_try_as (X := (cxOf CX0 P w K mg base n_told "_law_told" (defScope sLawTold) f cdv A outer s H E).nox) (i := 1) (c := .ref CN)
      (tb := fun W D σ H => ∃ Ech : XK, (∀ cls d σ' H', Ech cls d H' → W cls d σ' H') ∧ ∃ v, σ[0]? = some (some v) ∧ spQ K CN [v] H (fun _ H1 => D.nx σ H1) Ech)
      (ts := fun a cls d D σ H => ∃ (dd : Addr) (p : Nat), cls = .ref CN ∧ d = some dd ∧ H dd = some (.xd [("place", .int p)]) ∧ (σ.length = 2 → σ[1]? = some (some (.ref a))) ∧ D.rt (.int p) H)
      rfl rfl sc_told.nd rfl rfl ⟨by rfl, by decide,   .inl ER.gC⟩ L2.takes0 (fun W pn xe tk _ => ?_) (fun a oe cls d pn hz hf => ?_)) (pss_one (ps_ret pe_non)), ?_⟩
  · refine ⟨fun pins s' σ H' D I h' => ?_⟩
    obtain ⟨Ech, hW, v, hv, h2⟩ := h'
    refine PSs.run (pss_one (ps_expr (pe_dnm (E := Ech) DQ hrm (by rfl) (passes_call tk hW) (pa_cons (pv 0) pa_nil)))) pins s' σ H' D I ?_
    exact ⟨v, hv, h2⟩
  · refine ⟨fun pins s' σ H' D I h' => ?_⟩
    obtain ⟨dd, p, rfl, rfl, e1, e2, q⟩ := h'
    have e2 := e2 I.len
    refine PSs.run (pss_one (ps_ret (pe_xf (X := (cxOf CX0 P w K mg base n_told "_law_told" (defScope sLawTold) f cdv A outer s H E).nox) (n := "place") ER.xf ER.no hz hf (pv 1)))) pins s' σ H' D I ?_
    exact ⟨_, e2, rfl, rfl, dd, _, .int p, rfl, e1, rfl, q⟩
  · obtain ⟨cs, o, rfl, hl, ht, q⟩ := h
    refine ⟨fun cls d H' => cls = .ref CN ∧ ∃ (dd : Addr) (p : Nat), d = some dd ∧ H' dd = some (.xd [("place", .int p)]) ∧ Q (.int p) H', fun cls d σ' H' ⟨e1, dd, p, e2, e3, e4⟩ => ?_, ?_⟩
    · subst e1
      exact ⟨true, ER.self, fun _ a na => ⟨dd, p, rfl, e2, e3, fun hl => by rw [List.length_set] at hl; rw [List.getElem?_set_self (by omega)], e4⟩, nofun⟩
    · refine ⟨_, rfl, .inl ⟨cs, rfl, hl, ?_⟩⟩
      cases o with
      | none =>
        obtain ⟨t, us, e, er⟩ := ht
        rw [er]
        exact fun v H' s1 _ => q H' s1
      | some p =>
        rw [show readQ cs = .err p from ht]
        exact fun dx H' s1 e1 => ⟨rfl, dx, p, rfl, e1, q H' s1⟩
end
/-! ### the texts at the end -/
def tellsB (r : Rs Tr) (o : Option Nat) : Bool := match r, o with
  | .ok _ _ _, none => true
  | .err p, some q => decide (p = q)
  | _, _ => false
theorem tells_of {r : Rs Tr} {o : Option Nat} (h : tellsB r o = true) : Tells r o := by
  cases r with
  | ok t us e => cases o with
    | none => exact ⟨_, _, _, rfl⟩
    | some _ => cases h
  | err p => cases o with
    | none => cases h
    | some q => exact congrArg Rs.err (of_decide_eq_true h)
  | stuck => cases h
def sfx : List Nat := [115, 101, 108, 101, 99, 116, 32, 120, 32, 102, 114, 111, 109, 32]
def end1 (m : Nat) : List Nat := repL (sfx ++ [40]) m ++ (sfx ++ [116]) ++ repL [41, 32, 97, 115, 32, 97] m
def end2 (m : Nat) : List Nat := repL [40] m ++ (sfx ++ [116]) ++ repL [41] m
def end3 (m : Nat) : List Nat := sfx ++ repL [40] m ++ [116] ++ repL [41] m
theorem ends30 : (tellsB (readQ (end1 30)) none && tellsB (readQ (end2 30)) none && tellsB (readQ (end3 30)) none) = true := by decide +kernel
theorem ends31 : (tellsB (readQ (end1 31)) (some 464) && tellsB (readQ (end2 31)) (some 30) && tellsB (readQ (end3 31)) (some 44)) = true := by decide +kernel
end Ask
namespace Ask
open PySem L2 PySem.Spec PyProof.Rows PySem.AskX LamX NdefX

/-! ### _law_shells -/
def shOf : Nat → Sh
  | 0 => .par | 1 => .cas | 2 => .coa | 3 => .one | 4 => .cnt | _ => .sum
def strsA : List V := [.str "(", .str "case when x = 1 then ", .str "coalesce(1, ", .str "one (select ", .str "count(", .str "sum(x) + ("]
def strsB : List V := [.str ")", .str " end", .str ")", .str " as y from t)", .str ")", .str ")"]
theorem strsA_eq : strsA = [.str (So (Sh.txA .par)), .str (So (Sh.txA .cas)), .str (So (Sh.txA .coa)), .str (So (Sh.txA .one)), .str (So (Sh.txA .cnt)), .str (So (Sh.txA .sum))] := by
  have h1 : ("(" : Str) = So (Sh.txA .par) := by decide +kernel
  have h2 : ("case when x = 1 then " : Str) = So (Sh.txA .cas) := by decide +kernel
  have h3 : ("coalesce(1, " : Str) = So (Sh.txA .coa) := by decide +kernel
  have h4 : ("one (select " : Str) = So (Sh.txA .one) := by decide +kernel
  have h5 : ("count(" : Str) = So (Sh.txA .cnt) := by decide +kernel
  have h6 : ("sum(x) + (" : Str) = So (Sh.txA .sum) := by decide +kernel
  unfold strsA
  rw [h1, h2, h3, h4, h5, h6]
theorem strsB_eq : strsB = [.str (So (Sh.txB .par)), .str (So (Sh.txB .cas)), .str (So (Sh.txB .coa)), .str (So (Sh.txB .one)), .str (So (Sh.txB .cnt)), .str (So (Sh.txB .sum))] := by
  have h1 : (")" : Str) = So (Sh.txB .par) := by decide +kernel
  have h2 : (" end" : Str) = So (Sh.txB .cas) := by decide +kernel
  have h3 : (")" : Str) = So (Sh.txB .coa) := h1
  have h4 : (" as y from t)" : Str) = So (Sh.txB .one) := by decide +kernel
  unfold strsB
  rw [h2, h4, h1]
  rfl
theorem atA {n : Int} (h0 : 0 ≤ n) (h6 : n < 6) : atI strsA n = some (.str (So (shOf n.toNat).txA)) := by
  obtain ⟨j, rfl⟩ : ∃ j : Nat, n = j := ⟨n.toNat, by omega⟩
  have hj : j < 6 := by omega
  refine atI_nat ?_
  rw [strsA_eq]
  match j, hj with
  | 0, _ => rfl
  | 1, _ => rfl
  | 2, _ => rfl
  | 3, _ => rfl
  | 4, _ => rfl
  | 5, _ => rfl
theorem atB {n : Int} (h0 : 0 ≤ n) (h6 : n < 6) : atI strsB n = some (.str (So (shOf n.toNat).txB)) := by
  obtain ⟨j, rfl⟩ : ∃ j : Nat, n = j := ⟨n.toNat, by omega⟩
  have hj : j < 6 := by omega
  refine atI_nat ?_
  rw [strsB_eq]
  match j, hj with
  | 0, _ => rfl
  | 1, _ => rfl
  | 2, _ => rfl
  | 3, _ => rfl
  | 4, _ => rfl
  | 5, _ => rfl
theorem shA_add : ∀ (ss : List Sh) (s : Sh), shA (ss ++ [s]) = shA ss ++ s.txA
  | [], s => by show s.txA ++ [] = [] ++ s.txA; rw [List.append_nil]; rfl
  | x :: ss, s => by show x.txA ++ shA (ss ++ [s]) = x.txA ++ shA ss ++ s.txA; rw [shA_add ss s, List.append_assoc]
theorem shB_add : ∀ (ss : List Sh) (s : Sh), shB (ss ++ [s]) = s.txB ++ shB ss
  | [], s => by show [] ++ s.txB = s.txB ++ []; rw [List.append_nil]; rfl
  | x :: ss, s => by show shB (ss ++ [s]) ++ x.txB = s.txB ++ (shB ss ++ x.txB); rw [shB_add ss s, List.append_assoc]
theorem shA_len : ∀ ss : List Sh, (shA ss).length ≤ 21 * ss.length
  | [] => Nat.le_refl _
  | s :: ss => by
    show (s.txA ++ shA ss).length ≤ 21 * (ss.length + 1)
    have h1 : s.txA.length ≤ 21 := by rw [show s.txA.length = s.lenA from lenA_eq s]; cases s <;> decide
    have := shA_len ss
    rw [List.length_append]
    omega
theorem shB_len : ∀ ss : List Sh, (shB ss).length ≤ 13 * ss.length
  | [] => Nat.le_refl _
  | s :: ss => by
    show (shB ss ++ s.txB).length ≤ 13 * (ss.length + 1)
    have h1 : s.txB.length ≤ 13 := by rw [show s.txB.length = s.lenB from lenB_eq s]; cases s <;> decide
    have := shB_len ss
    rw [List.length_append]
    omega
theorem So_cat (l m : List Nat) : So l ++ So m = So (l ++ m) := SX.S_cat l m
def spShells : Sp := fun vs H Q _ => ∃ (d : Addr) (m p : Int), vs = [.ref d, .int m] ∧ 0 ≤ m ∧ m ≤ 33 ∧ Tape H d p ∧ p < 900000000 ∧
  ∀ (ss : List Sh) (q : Addr) (p' : Int) (H1 H' : Hp), (ss.length : Int) = m → Tape H1 d p' → p' ≤ p + 50 → Off H H1 d → H1 q = none → H' = L2.upd H1 q (.tup [.str (So (shA ss)), .str (So (shB ss))]) → Q (.ref q) H'
section
variable {P : Program} {w : World} {K : PySem.W.Frag} {mg : Str → Option Value} {base : Heap} {f : Addr} {fd : FuncData}
abbrev n_shells : List Str := ["_law_tape", "_law_many", "_law_ahead", "_law_behind", "_law_k", "_law_way", "_law_some"]
theorem sc_shells : FnScope n_shells ["_law_tape", "_law_many"] (defScope sLawShells) := ⟨rfl, rfl, rfl, by decide +kernel, rfl, by decide +kernel, by decide +kernel⟩
theorem ok_shells (F : Fun K "_law_shells" "_law_shells" sLawShells f fd) (B : Blt mg) (DD : Dn P w K mg base 1 "_law_draw" ["_law_tape", "_law_many"] spDraw) : FnOk P w K mg base CX0 2 f fd ["_law_tape", "_law_many"] spShells := by
  refine F.ok sc_shells (fun vs H Q E z => by obtain ⟨_, _, _, e, _⟩ := z; rw [e]; rfl) (fun cdv A outer s H vs Q E hr h => ?_)
  obtain ⟨d, m, p, rfl, m0, m1, T, p1, k⟩ := h
  refine ⟨_, pss_cons (ps_asg (pe_tup (pa_cons pe_str (pa_cons pe_str pa_nil))) (pg_tup rfl (pgs_cons (pg_name (i := 2) sc_shells.nd rfl (Or.inl rfl)) (pgs_cons (pg_name (i := 3) sc_shells.nd rfl (Or.inl rfl)) pgs_nil))))
    (pss_cons (ps_for PassesOwn.never rfl (pi_range1 (by rfl) B.range (pa_cons (pv 1) pa_nil)) (pg_name (i := 4) sc_shells.nd rfl (Or.inl rfl))
      (pss_cons (ps_set (i := 5) sc_shells.nd rfl (Or.inl rfl) (pe_dn DD hr (by rfl) (pa_cons (pv 0) (pa_cons pe_int pa_nil))))
      (pss_cons (ps_set (i := 6) sc_shells.nd rfl (Or.inl rfl) (pe_ix ix_list (pe_lst (pa_cons pe_str (pa_cons pe_str (pa_cons pe_str (pa_cons pe_str (pa_cons pe_str (pa_cons pe_str pa_nil))))))) (pv 5) (fun _ _ => rfl)))
      (pss_cons (ps_set (i := 2) sc_shells.nd rfl (Or.inl rfl) (pe_op op_add_str (pv 2) (pv 6)))
      (pss_one (ps_set (i := 3) sc_shells.nd rfl (Or.inl rfl) (pe_op op_add_str (pe_ix ix_list (pe_lst (pa_cons pe_str (pa_cons pe_str (pa_cons pe_str (pa_cons pe_str (pa_cons pe_str (pa_cons pe_str pa_nil))))))) (pv 5) (fun _ _ => rfl)) (pv 3))))))))
    (pss_one (ps_ret (pe_tup (pa_cons (pv 2) (pa_cons (pv 3) pa_nil)))))), ?_⟩
  refine ⟨by show 2 ≤ sizeLine; decide, fun q0 hq0 => ?_⟩
  refine ⟨q0, _, rfl, SqT.of upd_same, rfl, _, _, rfl, _, _, rfl, rfl, ?_⟩
  refine ⟨_, rfl, m, rfl, by omega, by omega, for_range (n := m.toNat) (fun i σ H4 => ∃ (ss : List Sh) (v4 v5 v6 : Option V) (p4 : Int), σ = [some (.ref d), some (.int m), some (.str (So (shA ss))), some (.str (So (shB ss))), v4, v5, v6] ∧ ss.length = i ∧ Tape H4 d p4 ∧ p4 ≤ p + i ∧ Off H H4 d)
    ⟨[], none, none, none, p, rfl, rfl, T.new hq0 _, by omega, (Off.refl _ _).new hq0 _⟩ ?_ ?_⟩
  · rintro i σ H4 hi ⟨ss, v4, v5, v6, p4, rfl, hl, T4, hp4, o4⟩
    refine ⟨_, rfl, d, 6, p4, rfl, by decide, by decide, T4, by omega, fun n p5 H5 n0 n1 T5 hp5 o5 => ⟨by show 6 ≤ sizeLine; decide, fun l hl5 => ?_⟩⟩
    refine ⟨_, rfl, l, strsA, n, _, rfl, rfl, SqL.of upd_same, atA n0 n1, ?_⟩
    have hA := shA_len ss
    have hB := shB_len ss
    have lA : (shOf n.toNat).txA.length ≤ 21 := by rw [show (shOf n.toNat).txA.length = _ from lenA_eq _]; cases shOf n.toNat <;> decide
    have lB : (shOf n.toNat).txB.length ≤ 13 := by rw [show (shOf n.toNat).txB.length = _ from lenB_eq _]; cases shOf n.toNat <;> decide
    refine ⟨_, rfl, _, rfl, _, _, rfl, rfl, line10 (show (shA ss).length + (shOf n.toNat).txA.length ≤ 10000 by omega), ?_⟩
    refine ⟨by show 6 ≤ sizeLine; decide, fun l2 hl6 => ?_⟩
    refine ⟨_, rfl, l2, strsB, n, _, rfl, rfl, SqL.of upd_same, atB n0 n1, ?_⟩
    refine ⟨_, rfl, _, _, rfl, rfl, line10 (show (shOf n.toNat).txB.length + (shB ss).length ≤ 10000 by omega), ?_⟩
    refine ⟨ss ++ [shOf n.toNat], some (.int (0 + i)), some (.int n), some (.str (So (shOf n.toNat).txA)), p5, ?_, by rw [List.length_append]; simp [hl], (T5.new hl5 _).new hl6 _, by omega, ((o4.trans o5).new hl5 _).new hl6 _⟩
    rw [shA_add, shB_add, ← So_cat, ← So_cat]
    rfl
  · rintro σ H4 ⟨ss, v4, v5, v6, p4, rfl, hl, T4, hp4, o4⟩
    refine ⟨_, rfl, _, rfl, by show 2 ≤ sizeLine; decide, fun q hq => k ss q p4 H4 _ (by omega) T4 (by omega) o4 hq rfl⟩
end
end Ask
namespace Ask
open PySem L2 PySem.Spec PyProof.Rows PySem.AskX LamX NdefX

structure LwDefs (P : Program) (w : World) (K : PySem.W.Frag) (mg : Str → Option Value) (base : Heap) : Prop where
  begin : Dn P w K mg base 1 "_law_begin" ["_law_script"] (spBegin K)
  draw : Dn P w K mg base 1 "_law_draw" ["_law_tape", "_law_many"] spDraw
  pick : Dn P w K mg base 2 "_law_pick" ["_law_tape", "_law_items"] (spPick K)
  told : Dn P w K mg base 229 "_law_told" ["_law_text"] spTold
  shells : Dn P w K mg base 2 "_law_shells" ["_law_tape", "_law_many"] spShells
theorem text15 (ss : List Sh) : ((((("select (x) as a, " : Str) ++ So (shA ss)) ++ ("x" : Str)) ++ So (shB ss)) ++ (" as b from t" : Str)) = So (txt15 ss) := by
  rw [show ("select (x) as a, " : Str) = So (itxt ahead15) by decide +kernel, show ("x" : Str) = So [120] by decide +kernel, show (" as b from t" : Str) = So (itxt behind15) by decide +kernel]
  simp only [So_cat]
  refine congrArg So ?_
  unfold txt15
  simp only [List.append_assoc, List.cons_append, List.nil_append]
theorem len15 (ss : List Sh) (h : ss.length ≤ 33) : (txt15 ss).length ≤ 2000 := by
  have h1 := shA_len ss
  have h2 := shB_len ss
  unfold txt15
  simp only [List.length_append, List.length_cons]
  have h3 : (itxt ahead15).length = 17 := by decide +kernel
  have h4 : (itxt behind15).length = 12 := by decide +kernel
  omega
theorem pref_take : ∀ (z l : List Nat), decide (l.take z.length = z) = pref z l
  | [], _ => by simp [pref]
  | _ :: _, [] => by simp [pref]
  | a :: z, b :: l => by
    show decide (b :: l.take z.length = a :: z) = (Nat.beq a b && pref z l)
    rw [← pref_take z l]
    by_cases e : a = b
    · subst e
      rw [Nat.beq_refl, Bool.true_and]
      exact decide_eq_decide.mpr ⟨fun q => List.tail_eq_of_cons_eq q, fun q => by rw [q]⟩
    · rw [show Nat.beq a b = false from Bool.eq_false_iff.mpr fun q => e (Nat.eq_of_beq_eq_true q), Bool.false_and]
      exact decide_eq_false fun q => e (List.head_eq_of_cons_eq q).symm
theorem eq_slice (cs z : List Nat) {i : Nat} {m : Int} {Z : Str} (hZ : Z = So z) (hz : (z.length : Int) = m) (hi : i ≤ cs.length) : decide (V.str (Txt.slice (So cs) (some (i : Int)) (some ((i : Int) + m))) = V.str Z) = pref z (cs.drop i) := by
  subst hz
  rw [show (i : Int) + (z.length : Int) = ((i + z.length : Nat) : Int) by omega, slice_both cs (by omega) hi, hZ, show i + z.length - i = z.length by omega, ← pref_take]
  exact decide_eq_decide.mpr ⟨fun q => So_inj (V.str.inj q), fun q => by rw [q]⟩
theorem eq_at {cs : List Nat} {i c x : Nat} {Z : Str} (hZ : Z = So [x]) (h : cs[i]? = some c) : decide (V.str ⟨#[c]⟩ = V.str Z) = pref [x] (cs.drop i) := by
  have hd : cs.drop i = c :: cs.drop (i + 1) := by rw [List.drop_eq_getElem?_toList_append, h]; rfl
  rw [hd, hZ]
  show _ = (Nat.beq x c && true)
  rw [Bool.and_true]
  by_cases e : x = c
  · subst e
    rw [show Nat.beq x x = true from Nat.beq_refl x]
    exact decide_eq_true rfl
  · rw [show Nat.beq x c = false from Bool.eq_false_iff.mpr fun q => e (Nat.eq_of_beq_eq_true q)]
    exact decide_eq_false fun q => e (List.head_eq_of_cons_eq (So_inj (V.str.inj q : So [c] = So [x]))).symm
theorem step_n {l : List Nat} {o c : Bool} {n : Int} (ho : opC l = o) (hc : clC l = c) : n + (if o = true then 1 else 0) - (if c = true then 1 else 0) = stepN (opC l) (clC l) n := by
  subst ho hc
  cases h1 : opC l with
  | true => rw [op_cl h1]; show n + 1 - 0 = n + 1; omega
  | false =>
    cases h2 : clC l with
    | true => show n + 0 - 1 = n - 1; omega
    | false => show n + 0 - 0 = n; omega
def oD : Option Nat → PyData
  | none => .none
  | some p => .int p
structure ShO (o : Option Nat) : Prop where
  s : (oD o).showable = true
  n : (oD o).hasDict = false
  d : (oD o).depth ≤ 20
  l : (oD o).shown.length ≤ 100000
theorem sho_all : ((List.range 2001).all fun p => (PyData.int p).showable && decide ((PyData.int p).shown.length ≤ 100000)) = true := by decide +kernel
theorem sho_of {o : Option Nat} (h : ∀ p, o = some p → p ≤ 2000) : ShO o := by
  cases o with
  | none => exact ⟨rfl, rfl, by decide, by decide +kernel⟩
  | some p =>
    obtain ⟨h1, h2⟩ := Bool.and_eq_true_iff.mp (List.all_eq_true.mp sho_all p (List.mem_range.mpr (by have := h p rfl; omega)))
    exact ⟨h1, rfl, by show 0 ≤ 20; decide, of_decide_eq_true h2⟩
theorem dpO {K : PySem.W.Frag} {H : Hp} (o : Option Nat) : Dp K H (oV o) (oD o) := by
  cases o with
  | none => exact .non
  | some p => exact .int _
theorem due_lt : ∀ (ss : List Sh) (d : Int) (i p : Nat), shDue ss d i = some p → p < i + shLen ss
  | [], _, _, _, h => by cases h
  | s :: ss, d, i, p, h => by
    have hl : s.opn < s.lenA := by cases s <;> decide
    show p < i + (s.lenA + shLen ss + s.lenB)
    by_cases e : d = 30
    · have h2 : i + s.opn = p := Option.some.inj ((show shDue (s :: ss) d i = some (i + s.opn) from if_pos e).symm.trans h)
      omega
    · have := due_lt ss (d + 1) (i + s.lenA) p ((show shDue (s :: ss) d i = shDue ss (d + 1) (i + s.lenA) from if_neg e).symm.trans h)
      omega
theorem due_le (ss : List Sh) (h : ss.length ≤ 33) : ∀ p, shDue ss 0 17 = some p → p ≤ 2000 := fun p e => by
  have h1 := due_lt ss 0 17 p e
  have h2 := shIts_len ss
  rw [shIts_txt, List.length_append, List.length_cons] at h2
  have h3 := shA_len ss
  have h4 := shB_len ss
  omega
theorem neSame {d : PyData} (h : SeqAt.shaped d = true) : (!PyData.eqv d d) = false := by rw [SeqAt.eqv_refl d (SeqAt.canLay_of_shaped h)]; rfl
theorem neStr (x : Str) : (!decide (V.str x = V.str x)) = false := by rw [decide_eq_true rfl]; rfl
theorem q_sp : ("select x from (" : Str) = So (sfx ++ [40]) := by decide +kernel
theorem q_st : ("select x from t" : Str) = So (sfx ++ [116]) := by decide +kernel
theorem q_sf : ("select x from " : Str) = So sfx := by decide +kernel
theorem q_as : (") as a" : Str) = So [41, 32, 97, 115, 32, 97] := by decide +kernel
theorem q_op : ("(" : Str) = So [40] := by decide +kernel
theorem q_cl : (")" : Str) = So [41] := by decide +kernel
theorem q_t : ("t" : Str) = So [116] := by decide +kernel
theorem cat1 (m : Nat) : (So (repL (sfx ++ [40]) m) ++ ("select x from t" : Str)) ++ So (repL [41, 32, 97, 115, 32, 97] m) = So (end1 m) := by rw [q_st, So_cat, So_cat]; rfl
theorem cat2 (m : Nat) : (So (repL [40] m) ++ ("select x from t" : Str)) ++ So (repL [41] m) = So (end2 m) := by rw [q_st, So_cat, So_cat]; rfl
theorem cat3 (m : Nat) : ((("select x from " : Str) ++ So (repL [40] m)) ++ ("t" : Str)) ++ So (repL [41] m) = So (end3 m) := by rw [q_sf, q_t, So_cat, So_cat, So_cat]; rfl
theorem repLen (l : List Nat) (m : Nat) : (So (repL l m)).length = m * l.length := repL_len l m
section
variable {P : Program} {w : World} {K : PySem.W.Frag} {mg : Str → Option Value} {base : Heap}
abbrev n_law : List Str := ["_law_script", "_law_tape", "_law_turn", "_law_many", "_law_ahead", "_law_behind", "_law_text", "_law_open_at", "_law_now", "_law_due", "_law_at", "_law_is_case"]
theorem sc_law : FnScope n_law ["_law_script"] (defScope sLaw) := ⟨rfl, rfl, rfl, by decide +kernel, rfl, by decide +kernel, by decide +kernel⟩
theorem law_body15 {s₁ : Shared} {H : Hp} {fa a : Addr} {ns : List Int} {cdv : Value} (hS : SqL K H a (ns.map V.int)) (B : Blt mg) (D : LwDefs P w K mg base) (hr : Room 230 (callerA.deeper (envOfC "law" (defScope sLaw) s₁.heap.objs.size fa cdv))) (hg : (callerA.deeper (envOfC "law" (defScope sLaw) s₁.heap.objs.size fa cdv)).guards = some []) :
    ∃ t, PSs (cxOf CX0 P w K mg base n_law "law" (defScope sLaw) fa cdv callerA [] s₁ H fun _ _ _ => False).nox (defBody sLaw) t ∧ t { nx := fun _ _ => V.non = V.bl true, rt := fun v _ => v = .bl true } (start n_law [.ref a]) H := by
  have hr1 : Room 1 _ := hr.mono (by decide)
  have hr2 : Room 2 _ := hr.mono (by decide)
  have hrT : Room 229 _ := hr.mono (by decide)
  have hu := hr.units
  have hu30 : (callerA.deeper (envOfC "law" (defScope sLaw) s₁.heap.objs.size fa cdv)).units + 30 < cLine := by omega
  have hu64 : (callerA.deeper (envOfC "law" (defScope sLaw) s₁.heap.objs.size fa cdv)).units + 64 < cLine := by omega
  refine ⟨_, (pss_cons (ps_set (i := 1) sc_law.nd rfl (Or.inl rfl) (pe_dn D.begin hr1 (by rfl) (pa_cons (pv 0) pa_nil))) (pss_cons (ps_for PassesOwn.never rfl (pi_range1 (by rfl) B.range (pa_cons pe_int pa_nil)) (pg_name (i := 2) sc_law.nd rfl (Or.inl rfl)) (pss_cons (ps_set (i := 3) sc_law.nd rfl (Or.inl rfl) (pe_dn D.pick hr2 (by rfl) (pa_cons (pv 1) (pa_cons (pe_lst (pa_cons pe_int (pa_cons pe_int (pa_cons pe_int (pa_cons pe_int (pa_cons pe_int (pa_cons (pe_dn D.draw hr1 (by rfl) (pa_cons (pv 1) (pa_cons pe_int pa_nil))) pa_nil))))))) pa_nil)))) (pss_cons (ps_asg (pe_dn D.shells hr2 (by rfl) (pa_cons (pv 1) (pa_cons (pv 3) pa_nil))) (pg_tup rfl (pgs_cons (pg_name (i := 4) sc_law.nd rfl (Or.inl rfl)) (pgs_cons (pg_name (i := 5) sc_law.nd rfl (Or.inl rfl)) pgs_nil)))) (pss_cons (ps_set (i := 6) sc_law.nd rfl (Or.inl rfl) ((pe_op op_add_str (pe_op op_add_str (pe_op op_add_str (pe_op op_add_str pe_str (pv 4)) pe_str) (pv 5)) pe_str))) (pss_cons (ps_par3 (i := 7) (j := 8) (l := 9) rfl sc_law.nd rfl rfl rfl (by decide) (by decide) (by decide) rfl rfl rfl (pa_cons (pe_lst pa_nil) (pa_cons pe_int (pa_cons pe_non pa_nil))) (by rfl)) (pss_cons (ps_for PassesOwn.never rfl (pi_range1 (by rfl) B.range (pa_cons (pe_callB call_len_str (by rfl) B.len PySem.boot_len (pa_cons (pv 6) pa_nil)) pa_nil)) (pg_name (i := 10) sc_law.nd rfl (Or.inl rfl)) (pss_cons (ps_set (i := 11) sc_law.nd rfl (Or.inl rfl) (pe_cmpR op_eq (pe_slice C8.sl_txt (pv 6) (po_some (pv 10)) (po_some (pe_op op_add (pv 10) pe_int))) pe_str (nomark _))) (C8.pss_cut (ps_if (pw_and (pw_or (pt_cmpR op_eq (pe_ix ix_str (pv 6) (pv 10) (fun _ _ => rfl)) pe_str (nomark _)) (pw_or1 (pt_val (pv 11)))).pt (pw_and (pt_cmpR op_eq (pv 8) pe_int (nomark _)) (pw_and1 (pt_cmpR op_isN (pv 9) pe_non (nomark _))))).pt (pss_one (ps_set (i := 9) sc_law.nd rfl (Or.inl rfl) (pv 10))) pss_nil) (pss_one (ps_set (i := 8) sc_law.nd rfl (Or.inl rfl) (pe_op op_sub (pe_op op_add (pv 8) (pe_callTy call_int1 (by rfl) B.int boot_int (pa_cons (pe_or (pe_cmpR op_eq (pe_ix ix_str (pv 6) (pv 10) (fun _ _ => rfl)) pe_str (nomark _)) (pe_one (pv 11))) pa_nil))) (pe_callTy call_int1 (by rfl) B.int boot_int (pa_cons (pe_or (pe_cmpR op_eq (pe_ix ix_str (pv 6) (pv 10) (fun _ _ => rfl)) pe_str (nomark _)) (pe_one (pe_cmpR op_eq (pe_slice C8.sl_txt (pv 6) (po_some (pv 10)) (po_some (pe_op op_add (pv 10) pe_int))) pe_str (nomark _)))) pa_nil)))))))) (pss_one (ps_if (pw_or (pt_cmpR op_ne (pe_callB (call_repr_data hg hu30) (by rfl) B.repr boot_repr (pa_cons ((pe_dn D.told hrT (by rfl) (pa_cons (pv 6) pa_nil))) pa_nil)) (pe_callB (call_repr_data hg hu30) (by rfl) B.repr boot_repr (pa_cons (pv 9) pa_nil)) (nomark _)) (pw_or1 (pt_cmpR (op_neD hu64) (pv 7) (pe_lst pa_nil) (nomark _)))).pt (pss_one (ps_ret pe_bl)) pss_nil)))))))) (pss_cons (ps_for PassesOwn.never rfl (pi_tup (pe_tup (pa_cons pe_int (pa_cons pe_int pa_nil)))) (pg_name (i := 3) sc_law.nd rfl (Or.inl rfl)) (pss_cons (ps_set (i := 9) sc_law.nd rfl (Or.inl rfl) ((pe_ifExp (pt_cmpR op_eq (pv 3) pe_int (nomark _)) pe_non (pe_op op_add (pe_op op_mul pe_int (pe_callB call_len_str (by rfl) B.len PySem.boot_len (pa_cons (pe_str) pa_nil))) pe_int)))) (pss_cons (ps_set (i := 6) sc_law.nd rfl (Or.inl rfl) ((pe_op op_add_str (pe_op op_add_str (pe_op op_mulL pe_str (pv 3)) pe_str) (pe_op op_mulL pe_str (pv 3))))) (pss_cons (ps_if (pt_cmpR op_ne (pe_callB (call_repr_data hg hu30) (by rfl) B.repr boot_repr (pa_cons ((pe_dn D.told hrT (by rfl) (pa_cons (pv 6) pa_nil))) pa_nil)) (pe_callB (call_repr_data hg hu30) (by rfl) B.repr boot_repr (pa_cons ((pe_ifExp (pt_cmpR op_eq (pv 3) pe_int (nomark _)) pe_non (pe_op op_sub (pe_op op_mul pe_int (pe_callB call_len_str (by rfl) B.len PySem.boot_len (pa_cons (pe_str) pa_nil))) pe_int))) pa_nil)) (nomark _)) (pss_one (ps_ret pe_bl)) pss_nil) (pss_cons (ps_if (pt_cmpR op_ne (pe_callB (call_repr_data hg hu30) (by rfl) B.repr boot_repr (pa_cons ((pe_dn D.told hrT (by rfl) (pa_cons ((pe_op op_add_str (pe_op op_add_str (pe_op op_mulL pe_str (pv 3)) pe_str) (pe_op op_mulL pe_str (pv 3)))) pa_nil))) pa_nil)) (pe_callB (call_repr_data hg hu30) (by rfl) B.repr boot_repr (pa_cons ((pe_ifExp (pt_cmpR op_eq (pv 3) pe_int (nomark _)) pe_non (pe_int))) pa_nil)) (nomark _)) (pss_one (ps_ret pe_bl)) pss_nil) (pss_one (ps_if (pt_cmpR op_ne (pe_callB (call_repr_data hg hu30) (by rfl) B.repr boot_repr (pa_cons ((pe_dn D.told hrT (by rfl) (pa_cons ((pe_op op_add_str (pe_op op_add_str (pe_op op_add_str pe_str (pe_op op_mulL pe_str (pv 3))) pe_str) (pe_op op_mulL pe_str (pv 3)))) pa_nil))) pa_nil)) (pe_callB (call_repr_data hg hu30) (by rfl) B.repr boot_repr (pa_cons ((pe_ifExp (pt_cmpR op_eq (pv 3) pe_int (nomark _)) pe_non (pe_int))) pa_nil)) (nomark _)) (pss_one (ps_ret pe_bl)) pss_nil))))))) (pss_one (ps_ret pe_bl))))), ?_⟩
  refine ⟨_, rfl, a, ns, rfl, hS, fun d H1 nd T0 s1 => ?_⟩
  refine ⟨6, rfl, by decide, by decide, for_range (n := 6) (fun i σ H4 => ∃ (v2 v3 v4 v5 v6 v7 v8 v9 v10 v11 : Option V) (p : Int), σ = [some (.ref a), some (.ref d), v2, v3, v4, v5, v6, v7, v8, v9, v10, v11] ∧ Tape H4 d p ∧ p ≤ 100 * i)
    ⟨none, none, none, none, none, none, none, none, none, none, 0, rfl, T0, by decide⟩ ?_ ?_⟩
  · rintro i σ H2 hi ⟨v2, v3, v4, v5, v6, v7, v8, v9, v10, v11, p, rfl, T, hp⟩
    refine ⟨_, rfl, _, rfl, d, 34, p, rfl, by decide, by decide, T, by omega, fun n p1 H3 n0 n1 T1 hp1 o1 => ⟨by show 6 ≤ sizeLine; decide, fun l hl => ?_⟩⟩
    refine ⟨d, .ref l, _, p1, rfl, T1.new hl _, by omega, .inl ⟨l, rfl, SqL.of upd_same⟩, by simp, (by decide : 6 < 1073741824), fun x p2 H4 mx T2 hp2 o2 => ?_⟩
    obtain ⟨M, rfl, M0, M1⟩ : ∃ M : Int, x = .int M ∧ 0 ≤ M ∧ M ≤ 33 := by
      simp only [List.mem_cons, List.not_mem_nil, or_false] at mx
      rcases mx with rfl | rfl | rfl | rfl | rfl | rfl
      · exact ⟨_, rfl, by decide, by decide⟩
      · exact ⟨_, rfl, by decide, by decide⟩
      · exact ⟨_, rfl, by decide, by decide⟩
      · exact ⟨_, rfl, by decide, by decide⟩
      · exact ⟨_, rfl, by decide, by decide⟩
      · exact ⟨_, rfl, n0, by omega⟩
    refine ⟨_, rfl, _, rfl, d, M, p2, rfl, M0, M1, T2, by omega, fun ss q p3 H5 H6 hss T3 hp3 o3 hq e6 => ?_⟩
    subst e6
    have hA := shA_len ss
    have hB := shB_len ss
    have hL := len15 ss (by omega)
    refine ⟨q, _, rfl, SqT.of upd_same, rfl, _, _, rfl, _, _, rfl, rfl, ?_⟩
    refine ⟨_, rfl, _, _, rfl, rfl, ?_, _, _, rfl, rfl, ?_, _, rfl, _, _, rfl, rfl, ?_, _, _, rfl, rfl, ?_, ?_⟩
    · exact line10 (show 17 + (shA ss).length ≤ 10000 by omega)
    · rw [show ("select (x) as a, " : Str) = So (itxt ahead15) by decide +kernel, So_cat]
      exact line10 (show (itxt ahead15 ++ shA ss).length + 1 ≤ 10000 by rw [List.length_append, show (itxt ahead15).length = 17 by decide +kernel]; omega)
    · rw [show ("select (x) as a, " : Str) = So (itxt ahead15) by decide +kernel, show ("x" : Str) = So [120] by decide +kernel, So_cat, So_cat]
      exact line10 (show (itxt ahead15 ++ shA ss ++ [120]).length + (shB ss).length ≤ 10000 by rw [List.length_append, List.length_append, show (itxt ahead15).length = 17 by decide +kernel]; simp only [List.length_singleton]; omega)
    · rw [show ("select (x) as a, " : Str) = So (itxt ahead15) by decide +kernel, show ("x" : Str) = So [120] by decide +kernel, So_cat, So_cat, So_cat]
      exact line10 (show (itxt ahead15 ++ shA ss ++ [120] ++ shB ss).length + 12 ≤ 10000 by rw [List.length_append, List.length_append, List.length_append, show (itxt ahead15).length = 17 by decide +kernel]; simp only [List.length_singleton]; omega)
    rw [text15]
    refine ⟨by show 0 ≤ sizeLine; decide, fun l2 hl2 => ⟨_, _, _, rfl, ?_⟩⟩
    obtain ⟨cs, hcs⟩ : ∃ cs, cs = txt15 ss := ⟨_, rfl⟩
    rw [← hcs] at hL ⊢
    have hS : (So cs).length ≤ 10000 := by show cs.length ≤ 10000; omega
    generalize hH7 : L2.upd (L2.upd H5 q _) l2 _ = H7
    have hT7 : Tape H7 d p3 := hH7 ▸ (T3.new hq _).new hl2 _
    have h7l : H7 l2 = some (.lst []) := hH7 ▸ upd_same
    refine ⟨_, rfl, So cs, rfl, line10 hS, (cs.length : Int), rfl, by omega, by omega, for_range (n := cs.length) (fun j σ H8 => ∃ (now : Int) (due : Option Nat) (v10 v11 : Option V), σ = [some (.ref a), some (.ref d), some (.int (0 + i)), some (.int M), some (.str (So (shA ss))), some (.str (So (shB ss))), some (.str (So cs)), some (.ref l2), some (.int now), some (oV due), v10, v11] ∧ H8 = H7 ∧ goC (cs.drop j) j now due = goC cs 0 0 none)
      ⟨0, none, _, _, rfl, rfl, rfl⟩ ?_ ?_⟩
    · rintro j σ H8 hj ⟨now, due, w10, w11, rfl, rfl, hgo⟩
      obtain ⟨c, hc⟩ : ∃ c, cs[j]? = some c := ⟨_, List.getElem?_eq_getElem hj⟩
      rw [Int.zero_add]
      refine ⟨_, rfl, _, rfl, _, rfl, _, rfl, _, _, rfl, rfl, _, rfl, So cs, rfl, line10 hS, rfl, ?_⟩
      rw [eq_slice cs caseC (by decide +kernel) (by decide) (by omega)]
      have hd : cs.drop j = c :: cs.drop (j + 1) := by rw [List.drop_eq_getElem?_toList_append, hc]; rfl
      have hg2 : goC (cs.drop (j + 1)) (j + 1) (stepN (opC (cs.drop j)) (clC (cs.drop j)) now) (stepD (opC (cs.drop j)) j now due) = goC cs 0 0 none := by rw [← hgo, hd]; rfl
      refine ⟨fun σ H' => σ = [some (.ref a), some (.ref d), some (.int (0 + i)), some (.int M), some (.str (So (shA ss))), some (.str (So (shB ss))), some (.str (So cs)), some (.ref l2), some (.int now), some (oV (stepD (opC (cs.drop j)) j now due)), some (.int j), some (.bl (pref caseC (cs.drop j)))] ∧ H' = H8, ?_, ?_⟩
      · refine ⟨_, rfl, _, rfl, So cs, j, c, rfl, rfl, line10 hS, atI_nat hc, rfl, ?_⟩
        rw [eq_at (x := 40) (by decide +kernel) hc]
        have hop : opC (cs.drop j) = (pref [40] (cs.drop j) || pref caseC (cs.drop j)) := rfl
        rw [hop]
        generalize pref [40] (cs.drop j) = b1
        generalize pref caseC (cs.drop j) = b2
        by_cases q1 : now = 30
        · by_cases q2 : due = none
          · subst q1 q2
            cases b1 with
            | true => exact ⟨_, rfl, iteT (iteT ⟨_, rfl, rfl, _, rfl, iteT ⟨_, rfl, rfl, _, rfl, iteT ⟨_, rfl, rfl, rfl⟩⟩⟩)⟩
            | false =>
              cases b2 with
              | true => exact ⟨_, rfl, iteF ⟨_, rfl, _, rfl, iteT ⟨_, rfl, rfl, _, rfl, iteT ⟨_, rfl, rfl, _, rfl, iteT ⟨_, rfl, rfl, rfl⟩⟩⟩⟩⟩
              | false => exact ⟨_, rfl, iteF ⟨_, rfl, _, rfl, iteF (iteF ⟨rfl, rfl⟩)⟩⟩
          · have hst : stepD (b1 || b2) j now due = due := by
              cases hb : (b1 || b2) with
              | true => exact if_neg fun z => q2 z.2
              | false => rfl
            rw [hst]
            obtain ⟨p9, rfl⟩ : ∃ p9, due = some p9 := by
              cases due with
              | none => exact absurd rfl q2
              | some p9 => exact ⟨p9, rfl⟩
            subst q1
            cases b1 with
            | true => exact ⟨_, rfl, iteT (iteT ⟨_, rfl, rfl, _, rfl, iteT ⟨_, rfl, rfl, _, rfl, iteF ⟨rfl, rfl⟩⟩⟩)⟩
            | false =>
              cases b2 with
              | true => exact ⟨_, rfl, iteF ⟨_, rfl, _, rfl, iteT ⟨_, rfl, rfl, _, rfl, iteT ⟨_, rfl, rfl, _, rfl, iteF ⟨rfl, rfl⟩⟩⟩⟩⟩
              | false => exact ⟨_, rfl, iteF ⟨_, rfl, _, rfl, iteF (iteF ⟨rfl, rfl⟩)⟩⟩
        · have hst : stepD (b1 || b2) j now due = due := by
            cases hb : (b1 || b2) with
            | true => exact if_neg fun z => q1 z.1
            | false => rfl
          rw [hst]
          have en : decide (V.int now = V.int 30) = false := decide_eq_false fun z => q1 (V.int.inj z)
          cases b1 with
          | true =>
            refine ⟨_, rfl, iteT (iteT ⟨_, rfl, rfl, _, rfl, ?_⟩)⟩
            rw [en]
            exact iteF (iteF ⟨rfl, rfl⟩)
          | false =>
            cases b2 with
            | true =>
              refine ⟨_, rfl, iteF ⟨_, rfl, _, rfl, iteT ⟨_, rfl, rfl, _, rfl, ?_⟩⟩⟩
              rw [en]
              exact iteF (iteF ⟨rfl, rfl⟩)
            | false => exact ⟨_, rfl, iteF ⟨_, rfl, _, rfl, iteF (iteF ⟨rfl, rfl⟩)⟩⟩
      · rintro σ' H' ⟨rfl, rfl⟩
        refine ⟨_, rfl, _, rfl, _, rfl, So cs, j, c, rfl, rfl, line10 hS, atI_nat hc, rfl, ?_⟩
        rw [eq_at (x := 40) (by decide +kernel) hc]
        have ho : opC (cs.drop j) = (pref [40] (cs.drop j) || pref caseC (cs.drop j)) := rfl
        have hl : clC (cs.drop j) = (pref [41] (cs.drop j) || pref endC (cs.drop j)) := rfl
        have e41 := eq_at (Z := ")") (x := 41) (by decide +kernel) hc
        have e4 := eq_slice cs endC (i := j) (m := 4) (Z := " end") (by decide +kernel) (by decide) (by omega)
        have last : ∀ (o c : Bool), opC (cs.drop j) = o → clC (cs.drop j) = c → goC (cs.drop (j + 1)) (j + 1) (now + (if o = true then 1 else 0) - (if c = true then 1 else 0)) (stepD (opC (cs.drop j)) j now due) = goC cs 0 0 none := fun o c h1 h2 => by rw [step_n h1 h2]; exact hg2
        cases hb1 : pref [40] (cs.drop j) <;> cases hb2 : pref caseC (cs.drop j)
        · refine ⟨_, rfl, iteF ⟨_, rfl, .inr ⟨_, rfl, _, _, rfl, rfl, _, rfl, _, rfl, So cs, j, c, rfl, rfl, line10 hS, atI_nat hc, rfl, ?_⟩⟩⟩
          rw [e41]
          cases hb3 : pref [41] (cs.drop j)
          · refine ⟨_, rfl, iteF ⟨_, rfl, _, rfl, _, rfl, _, rfl, _, _, rfl, rfl, _, rfl, So cs, rfl, line10 hS, rfl, ?_⟩⟩
            rw [e4]
            exact .inr ⟨_, rfl, _, _, rfl, rfl, _, stepD (opC (cs.drop j)) j now due, _, _, rfl, rfl, last _ _ (by rw [ho, hb1, hb2]; rfl) (by rw [hl, hb3]; rfl)⟩
          · exact ⟨_, rfl, iteT (.inr ⟨_, rfl, _, _, rfl, rfl, _, stepD (opC (cs.drop j)) j now due, _, _, rfl, rfl, last _ _ (by rw [ho, hb1, hb2]; rfl) (by rw [hl, hb3]; rfl)⟩)⟩
        · refine ⟨_, rfl, iteF ⟨_, rfl, .inr ⟨_, rfl, _, _, rfl, rfl, _, rfl, _, rfl, So cs, j, c, rfl, rfl, line10 hS, atI_nat hc, rfl, ?_⟩⟩⟩
          rw [e41]
          cases hb3 : pref [41] (cs.drop j)
          · refine ⟨_, rfl, iteF ⟨_, rfl, _, rfl, _, rfl, _, rfl, _, _, rfl, rfl, _, rfl, So cs, rfl, line10 hS, rfl, ?_⟩⟩
            rw [e4]
            exact .inr ⟨_, rfl, _, _, rfl, rfl, _, stepD (opC (cs.drop j)) j now due, _, _, rfl, rfl, last _ _ (by rw [ho, hb1, hb2]; rfl) (by rw [hl, hb3]; rfl)⟩
          · exact ⟨_, rfl, iteT (.inr ⟨_, rfl, _, _, rfl, rfl, _, stepD (opC (cs.drop j)) j now due, _, _, rfl, rfl, last _ _ (by rw [ho, hb1, hb2]; rfl) (by rw [hl, hb3]; rfl)⟩)⟩
        · refine ⟨_, rfl, iteT (.inr ⟨_, rfl, _, _, rfl, rfl, _, rfl, _, rfl, So cs, j, c, rfl, rfl, line10 hS, atI_nat hc, rfl, ?_⟩)⟩
          rw [e41]
          cases hb3 : pref [41] (cs.drop j)
          · refine ⟨_, rfl, iteF ⟨_, rfl, _, rfl, _, rfl, _, rfl, _, _, rfl, rfl, _, rfl, So cs, rfl, line10 hS, rfl, ?_⟩⟩
            rw [e4]
            exact .inr ⟨_, rfl, _, _, rfl, rfl, _, stepD (opC (cs.drop j)) j now due, _, _, rfl, rfl, last _ _ (by rw [ho, hb1, hb2]; rfl) (by rw [hl, hb3]; rfl)⟩
          · exact ⟨_, rfl, iteT (.inr ⟨_, rfl, _, _, rfl, rfl, _, stepD (opC (cs.drop j)) j now due, _, _, rfl, rfl, last _ _ (by rw [ho, hb1, hb2]; rfl) (by rw [hl, hb3]; rfl)⟩)⟩
        · refine ⟨_, rfl, iteT (.inr ⟨_, rfl, _, _, rfl, rfl, _, rfl, _, rfl, So cs, j, c, rfl, rfl, line10 hS, atI_nat hc, rfl, ?_⟩)⟩
          rw [e41]
          cases hb3 : pref [41] (cs.drop j)
          · refine ⟨_, rfl, iteF ⟨_, rfl, _, rfl, _, rfl, _, rfl, _, _, rfl, rfl, _, rfl, So cs, rfl, line10 hS, rfl, ?_⟩⟩
            rw [e4]
            exact .inr ⟨_, rfl, _, _, rfl, rfl, _, stepD (opC (cs.drop j)) j now due, _, _, rfl, rfl, last _ _ (by rw [ho, hb1, hb2]; rfl) (by rw [hl, hb3]; rfl)⟩
          · exact ⟨_, rfl, iteT (.inr ⟨_, rfl, _, _, rfl, rfl, _, stepD (opC (cs.drop j)) j now due, _, _, rfl, rfl, last _ _ (by rw [ho, hb1, hb2]; rfl) (by rw [hl, hb3]; rfl)⟩)⟩
    · rintro σ H8 ⟨now, due, w10, w11, rfl, rfl, hgo⟩
      rw [List.drop_length, hcs, go15 ss] at hgo
      obtain rfl : due = shDue ss 0 17 := (Prod.mk.inj hgo).2
      have sh := sho_of (due_le ss (by omega))
      have hT := read15 ss
      rw [← hcs] at hT
      refine ⟨_, rfl, cs, _, rfl, by omega, hT, fun H9 s9 => ?_⟩
      refine ⟨_, oD (shDue ss 0 17), rfl, dpO _, sh.s, sh.n, sh.d, sh.l, _, rfl, _, oD (shDue ss 0 17), rfl, dpO _, sh.s, sh.n, sh.d, sh.l, rfl, ?_⟩
      rw [neStr]
      refine ⟨_, rfl, iteF ⟨_, rfl, by show 0 ≤ sizeLine; decide, fun l3 hl3 => ⟨.list [], .list [], .lst (SqL.of (same_new hl3 _ _ _ (s9 _ _ h7l))) .nil, .lst (SqL.of upd_same) .nil, rfl, rfl, _, rfl, ?_⟩⟩⟩
      rw [neSame (d := .list []) rfl]
      exact iteF ⟨_, _, _, _, _, _, _, _, _, _, p3, rfl, (hT7.same s9).new hl3 _, by omega⟩
  · rintro σ H2 ⟨v2, v3, v4, v5, v6, v7, v8, v9, v10, v11, p, rfl, T, hp⟩
    refine ⟨by show 2 ≤ sizeLine; decide, fun L1 hL1 => ⟨L1, rfl, ⟨_, SqT.of upd_same⟩, ?_⟩⟩
    have hLL : (L2.upd H2 L1 (.tup [.int 30, .int 31])) L1 = some (.tup [.int 30, .int 31]) := upd_same
    obtain ⟨H9, e9⟩ : ∃ H9, H9 = L2.upd H2 L1 (.tup [.int 30, .int 31]) := ⟨_, rfl⟩
    rw [← e9] at hLL ⊢
    refine for_tup (xs := [.int 30, .int 31]) (fun i σ H' => (∃ (v2 v3 v4 v5 v6 v7 v8 v9 v10 v11 : Option V), σ = [some (.ref a), some (.ref d), v2, v3, v4, v5, v6, v7, v8, v9, v10, v11]) ∧ Same H9 H') ⟨⟨_, _, _, _, _, _, _, _, _, _, rfl⟩, .refl _⟩ (fun i σ H' _ R => SqT.of (R.2 _ _ hLL)) (fun i x σ H8 hx R => ?_) (fun σ H8 R => rfl)
    obtain ⟨⟨w2, w3, w4, w5, w6, w7, w8, w9, w10, w11, rfl⟩, s8⟩ := R
    have mx := List.mem_of_getElem? hx
    simp only [List.mem_cons, List.not_mem_nil, or_false] at mx
    have z30 := ends30
    have z31 := ends31
    rw [Bool.and_eq_true, Bool.and_eq_true] at z30 z31
    rcases mx with rfl | rfl
    · refine ⟨_, rfl, rfl, _, rfl, iteT ?_⟩
      refine ⟨_, rfl, (sfx ++ [40]), 30, congrArg V.str q_sp, rfl, by decide, by decide, by decide, _, _, rfl, rfl, line10 (by decide +kernel), _, rfl, [41, 32, 97, 115, 32, 97], 30, congrArg V.str q_as, rfl, by decide, by decide, by decide, _, _, rfl, rfl, line10 (by decide +kernel), ?_⟩
      rw [cat1 30]
      refine ⟨_, rfl, end1 30, none, rfl, by decide +kernel, tells_of z30.1.1, fun Ha sa => ⟨_, oD none, rfl, dpO _, by decide +kernel, rfl, by decide, by decide +kernel, _, rfl, rfl, _, rfl, iteT ⟨_, oD none, rfl, dpO none, by decide +kernel, rfl, by decide, by decide +kernel, rfl, ?_⟩⟩⟩
      rw [neStr]
      refine ⟨_, rfl, iteF ?_⟩
      refine ⟨_, rfl, [40], 30, congrArg V.str q_op, rfl, by decide, by decide, by decide, _, _, rfl, rfl, line10 (by decide +kernel), _, rfl, [41], 30, congrArg V.str q_cl, rfl, by decide, by decide, by decide, _, _, rfl, rfl, line10 (by decide +kernel), ?_⟩
      rw [cat2 30]
      refine ⟨end2 30, none, rfl, by decide +kernel, tells_of z30.1.2, fun Hb sb => ⟨_, oD none, rfl, dpO _, by decide +kernel, rfl, by decide, by decide +kernel, _, rfl, rfl, _, rfl, iteT ⟨_, oD none, rfl, dpO none, by decide +kernel, rfl, by decide, by decide +kernel, rfl, ?_⟩⟩⟩
      rw [neStr]
      refine ⟨_, rfl, iteF ?_⟩
      refine ⟨_, rfl, [40], 30, congrArg V.str q_op, rfl, by decide, by decide, by decide, _, _, rfl, rfl, line10 (by decide +kernel), _, _, rfl, rfl, line10 (by decide +kernel), _, rfl, [41], 30, congrArg V.str q_cl, rfl, by decide, by decide, by decide, _, _, rfl, rfl, line10 (by decide +kernel), ?_⟩
      rw [cat3 30]
      refine ⟨end3 30, none, rfl, by decide +kernel, tells_of z30.2, fun Hc sc => ⟨_, oD none, rfl, dpO _, by decide +kernel, rfl, by decide, by decide +kernel, _, rfl, rfl, _, rfl, iteT ⟨_, oD none, rfl, dpO none, by decide +kernel, rfl, by decide, by decide +kernel, rfl, ?_⟩⟩⟩
      rw [neStr]
      exact ⟨_, rfl, iteF ⟨⟨_, _, _, _, _, _, _, _, _, _, rfl⟩, ((s8.trans sa).trans sb).trans sc⟩⟩
    · refine ⟨_, rfl, rfl, _, rfl, iteF ?_⟩
      refine ⟨_, rfl, by show (_ : Nat) ≤ sizeLine; decide +kernel, _, _, rfl, rfl, .inl (by decide), _, _, rfl, rfl, ?_⟩
      refine ⟨_, rfl, (sfx ++ [40]), 31, congrArg V.str q_sp, rfl, by decide, by decide, by decide, _, _, rfl, rfl, line10 (by decide +kernel), _, rfl, [41, 32, 97, 115, 32, 97], 31, congrArg V.str q_as, rfl, by decide, by decide, by decide, _, _, rfl, rfl, line10 (by decide +kernel), ?_⟩
      rw [cat1 31]
      refine ⟨_, rfl, end1 31, (some 464), rfl, by decide +kernel, tells_of z31.1.1, fun Ha sa => ⟨_, oD (some 464), rfl, dpO _, by decide +kernel, rfl, by decide, by decide +kernel, _, rfl, rfl, _, rfl, iteF ⟨_, rfl, by show (_ : Nat) ≤ sizeLine; decide +kernel, _, _, rfl, rfl, .inl (by decide), _, _, rfl, rfl, ⟨_, oD (some 464), rfl, dpO (some 464), by decide +kernel, rfl, by decide, by decide +kernel, rfl, ?_⟩⟩⟩⟩
      rw [neStr]
      refine ⟨_, rfl, iteF ?_⟩
      refine ⟨_, rfl, [40], 31, congrArg V.str q_op, rfl, by decide, by decide, by decide, _, _, rfl, rfl, line10 (by decide +kernel), _, rfl, [41], 31, congrArg V.str q_cl, rfl, by decide, by decide, by decide, _, _, rfl, rfl, line10 (by decide +kernel), ?_⟩
      rw [cat2 31]
      refine ⟨end2 31, (some 30), rfl, by decide +kernel, tells_of z31.1.2, fun Hb sb => ⟨_, oD (some 30), rfl, dpO _, by decide +kernel, rfl, by decide, by decide +kernel, _, rfl, rfl, _, rfl, iteF ⟨_, oD (some 30), rfl, dpO (some 30), by decide +kernel, rfl, by decide, by decide +kernel, rfl, ?_⟩⟩⟩
      rw [neStr]
      refine ⟨_, rfl, iteF ?_⟩
      refine ⟨_, rfl, [40], 31, congrArg V.str q_op, rfl, by decide, by decide, by decide, _, _, rfl, rfl, line10 (by decide +kernel), _, _, rfl, rfl, line10 (by decide +kernel), _, rfl, [41], 31, congrArg V.str q_cl, rfl, by decide, by decide, by decide, _, _, rfl, rfl, line10 (by decide +kernel), ?_⟩
      rw [cat3 31]
      refine ⟨end3 31, (some 44), rfl, by decide +kernel, tells_of z31.2, fun Hc sc => ⟨_, oD (some 44), rfl, dpO _, by decide +kernel, rfl, by decide, by decide +kernel, _, rfl, rfl, _, rfl, iteF ⟨_, oD (some 44), rfl, dpO (some 44), by decide +kernel, rfl, by decide, by decide +kernel, rfl, ?_⟩⟩⟩
      rw [neStr]
      exact ⟨_, rfl, iteF ⟨⟨_, _, _, _, _, _, _, _, _, _, rfl⟩, ((s8.trans sa).trans sb).trans sc⟩⟩
end
end Ask
namespace Ask
open PySem L2 PySem.Spec PyProof.Rows PySem.AskX LamX NdefX

/-! ### the classes of the errors, checked in bulk -/
def tailOf : Nat → List Value
  | 0 => [.type "ValueError", .type "Exception", .type "BaseException", .type "object"]
  | 1 => [.type "LookupError", .type "Exception", .type "BaseException", .type "object"]
  | 2 => [.type "KeyError", .type "LookupError", .type "Exception", .type "BaseException", .type "object"]
  | 3 => [.type "ArithmeticError", .type "Exception", .type "BaseException", .type "object"]
  | _ => [.type "RuntimeError", .type "Exception", .type "BaseException", .type "object"]
def madeOf : Nat → String × String
  | 0 => ("ValueError", "ValueError.__new__")
  | 1 => ("LookupError", "LookupError.__new__")
  | 2 => ("LookupError", "LookupError.__new__")
  | 3 => ("ArithmeticError", "ArithmeticError.__new__")
  | _ => ("RuntimeError", "RuntimeError.__new__")
theorem tail_of : ∀ g : Nat, Tail (tailOf g) (madeOf g).1 (madeOf g).2
  | 0 => tail_V
  | 1 => tail_L
  | 2 => tail_K
  | 3 => tail_A
  | _ + 4 => tail_R
/-- the kinds of Python's own of which an error of the g-th one is -/
def shapeB (C : Addr) (T : List Value) (newId : String) : Obj → Bool
  | ⟨.type "type", _, .cls cd, sl⟩ => decide (cd.mro = .ref C :: T) && (cd.hasDict && (!cd.hasDel && match sl with
    | ⟨[_, _, _, _, some (.builtin n), _]⟩ => decide (n = newId)
    | _ => false))
  | _ => false
theorem shape_of {C : Addr} {T : List Value} {newId : String} : ∀ {o : Obj}, shapeB C T newId o = true → ∃ nm q N bs sn sub ab col dd k0 k1 k2 k3 k5, o = excClassObj nm q C N bs T true sn sub ab col dd k0 k1 k2 k3 k5 newId := by
  intro o h
  unfold shapeB at h
  split at h
  · rename_i dd cd sl
    obtain ⟨c1, c2, c3, c4, c5, c6, c7, c8, c9, c10, c11⟩ := cd
    obtain ⟨h1, h⟩ := Bool.and_eq_true_iff.mp h
    obtain ⟨h2, h⟩ := Bool.and_eq_true_iff.mp h
    obtain ⟨h3, h⟩ := Bool.and_eq_true_iff.mp h
    have e1 : c3 = .ref C :: T := of_decide_eq_true h1
    have e2 : c6 = true := h2
    have e3 : c11 = false := by simpa using h3
    subst e1 e2 e3
    split at h
    · rename_i k0 k1 k2 k3 n k5 _ _ _
      have e4 : n = newId := of_decide_eq_true h
      subst e4
      exact ⟨c1, c5, c4, c2, c7, c8, c9, c10, dd, k0, k1, k2, k3, k5, rfl⟩
    · cases h
  · cases h
def exB (K : PySem.W.Frag) (C : Addr) : Bool := decide (PySem.W.findIn K (.ref C) "__class__" = some (some (.builtin "object.__class__"))) && (decide (PySem.W.specialIn K (.builtin "object.__class__") "__get__" = some (some (.builtin "getset_descriptor.__get__"))) &&
  (decide (PySem.W.takesIn K (.builtin "object.__class__") = some true) && decide (PySem.W.mroIn K C (.type "object") = some true)))
def erB (K : PySem.W.Frag) (C : Addr) (g : Nat) : Bool := ((K.lookup C).any (shapeB C (tailOf g) (madeOf g).2)) && (decide (PySem.W.findIn K (.ref C) "__setattr__" = some (some (.builtin "object.__setattr__"))) && (PySem.W.keepIn K (.ref C) && (xfB K C && exB K C)))
structure Er (K : PySem.W.Frag) (C : Addr) (g : Nat) : Prop where
  er : ErC K C (tailOf g) (madeOf g).1 (madeOf g).2
  ea : ErA K C
theorem erB_ok {K : PySem.W.Frag} {C : Addr} {g : Nat} (h : erB K C g = true) : Er K C g := by
  obtain ⟨h1, h⟩ := Bool.and_eq_true_iff.mp h
  obtain ⟨h2, h⟩ := Bool.and_eq_true_iff.mp h
  obtain ⟨h3, h⟩ := Bool.and_eq_true_iff.mp h
  obtain ⟨h4, h5⟩ := Bool.and_eq_true_iff.mp h
  obtain ⟨o, ho, hs⟩ := (Option.any_eq_true_iff_get _ _).mp h1 |> fun ⟨a, b⟩ => (⟨_, (Option.some_get a).symm, b⟩ : ∃ o, K.lookup C = some o ∧ shapeB C (tailOf g) (madeOf g).2 o = true)
  obtain ⟨nm, q, N, bs, sn, sub, ab, col, dd, k0, k1, k2, k3, k5, eo⟩ := shape_of hs
  have X := xfB_ok h4
  obtain ⟨x1, h5⟩ := Bool.and_eq_true_iff.mp h5
  obtain ⟨x2, h5⟩ := Bool.and_eq_true_iff.mp h5
  obtain ⟨x3, x4⟩ := Bool.and_eq_true_iff.mp h5
  exact ⟨⟨⟨nm, q, N, bs, sn, sub, ab, col, dd, k0, k1, k2, k3, k5, ho.trans (congrArg some eo)⟩, tail_of g, of_decide_eq_true h2, h3⟩,
    ⟨X, X.ga, X.gg, X.exC, X.hdC, of_decide_eq_true x1, of_decide_eq_true x2, of_decide_eq_true x3, of_decide_eq_true x4⟩⟩
section
variable {P : Program} {w : World} {K : PySem.W.Frag} {mg : Str → Option Value} {base : Heap} {C : Addr}
def clsB (K : PySem.W.Frag) (C : Addr) : Bool := PySem.W.plainGet K C Str.empty && (PySem.W.hasDictIn K C && (PySem.W.plainOver K C && decide (PySem.W.findIn K (.ref C) "__setattr__" = some (some (.builtin "object.__setattr__")))))
theorem clsB_ok (h : clsB K C = true) : Cls K C := by
  obtain ⟨h1, h⟩ := Bool.and_eq_true_iff.mp h
  obtain ⟨h2, h⟩ := Bool.and_eq_true_iff.mp h
  obtain ⟨h3, h4⟩ := Bool.and_eq_true_iff.mp h
  exact ⟨h1, h2, h3, of_decide_eq_true h4⟩
def nosB (K : PySem.W.Frag) (C : Addr) (fs : List Str) : Bool := fs.all fun f => decide (PySem.W.findIn K (.ref C) f = some none)
theorem nosB_ok {fs : List Str} (h : nosB K C fs = true) : ∀ f ∈ fs, NoAttr K C f := fun f hf => show PySem.W.findIn K (.ref C) f = some none from of_decide_eq_true (List.all_eq_true.mp h f hf)
def mkB (K : PySem.W.Frag) (C : Addr) : Bool := PySem.W.makesIn K C && PySem.W.keepIn K (.ref C)
theorem isFn_of {f : Addr} (t : PySem.W.typeIn K (.ref f) = some (.type "function")) : PySem.W.isFn K (.ref f) = true := by
  unfold PySem.W.isFn
  rw [t]
  rfl
theorem mk_mk {f : Addr} (h : mkB K C = true) (h1 : PySem.W.findIn K (.ref C) "__init__" = some (some (.ref f))) (t : PySem.W.typeIn K (.ref f) = some (.type "function")) : L2.Mk K C f := by
  obtain ⟨k1, k2⟩ := Bool.and_eq_true_iff.mp h
  exact ⟨k1, h1, isFn_of t, k2⟩
def xB (K : PySem.W.Frag) (C : Addr) : Bool := decide (PySem.W.typeIn K (.ref C) = some (.type "type")) && decide (PySem.W.exmOne K (.ref C) (.ref C) = some true)
theorem erw_mk {fI : Addr} {fd : FuncData} {nm fld : Str} (e : erB K C 0 = true) (x : xB K C = true) (no : PySem.W.findIn K (.ref C) fld = some none) (gC : mg nm = some (.ref C)) (h : PySem.W.findIn K (.ref C) "__init__" = some (some (.ref fI)))
    (t : PySem.W.typeIn K (.ref fI) = some (.type "function")) (b : Binds K fd ["self", fld] []) (F : FnOk P w K mg base CX0 1 fI fd ["self", fld] (spI1 K fld)) : ErW P w K mg base C nm fld := by
  have E := erB_ok e
  obtain ⟨x1, x2⟩ := Bool.and_eq_true_iff.mp x
  exact ⟨⟨_, _, _, E.er⟩, E.ea.xf, E.ea.xf.exC, of_decide_eq_true x1, no, gC, ⟨fI, fd, h, t, b, F⟩, of_decide_eq_true x2⟩
abbrev sNqI : Stmt := inClass (top 1) 0
theorem sc_nqI : FnScope ["self", "place"] ["self", "place"] (defScope sNqI) := ⟨rfl, rfl, rfl, by decide +kernel, rfl, by decide +kernel, by decide +kernel⟩
theorem ok_nqI {fI : Addr} {fd : FuncData} (F : Fun K "__init__" "NoQuestion.__init__" sNqI fI fd) : FnOk P w K mg base CX0 1 fI fd ["self", "place"] (spI1 K "place") := by
  refine F.ok sc_nqI (fun vs H Q E h => ?_) (fun cdv A outer s H vs Q E hr h => ?_)
  · obtain ⟨a, C, y, rfl, _⟩ := h
    rfl
  · obtain ⟨a, C, y, rfl, e1, e2, e3, k⟩ := h
    refine ⟨_, pss_one (ps_est (pv 0) (pv 1)), ?_⟩
    exact ⟨_, rfl, _, rfl, a, C, rfl, e1, e2, .inl ⟨e3, k⟩⟩
end
theorem all_mk {l : PySem.W.OpenLaw} {w : World} {K : PySem.W.Frag} {h : Heap} {mg : Str → Option Value} {fa : Addr} (X : K.In h) (G : h.Ns mainGlobals mg) (hfa : mg "law" = some (.ref fa))
    {f1 : Addr} {od1 an1 : Option Addr} {sl1 : Array (Option Value)} {oc1 kV1 dc1 pm1 ct1 cd1 : Value} {f2 : Addr} {od2 an2 : Option Addr} {sl2 : Array (Option Value)} {oc2 kV2 dc2 pm2 ct2 cd2 : Value} {f3 : Addr} {od3 an3 : Option Addr} {sl3 : Array (Option Value)} {oc3 kV3 dc3 pm3 ct3 cd3 : Value} {f4 : Addr} {od4 an4 : Option Addr} {sl4 : Array (Option Value)} {oc4 kV4 dc4 pm4 ct4 cd4 : Value} {f5 : Addr} {od5 an5 : Option Addr} {sl5 : Array (Option Value)} {oc5 kV5 dc5 pm5 ct5 cd5 : Value} {f6 : Addr} {od6 an6 : Option Addr} {sl6 : Array (Option Value)} {oc6 kV6 dc6 pm6 ct6 cd6 : Value} {f7 : Addr} {od7 an7 : Option Addr} {sl7 : Array (Option Value)} {oc7 kV7 dc7 pm7 ct7 cd7 : Value} {f8 : Addr} {od8 an8 : Option Addr} {sl8 : Array (Option Value)} {oc8 kV8 dc8 pm8 ct8 cd8 : Value} {f9 : Addr} {od9 an9 : Option Addr} {sl9 : Array (Option Value)} {oc9 kV9 dc9 pm9 ct9 cd9 : Value} {f10 : Addr} {od10 an10 : Option Addr} {sl10 : Array (Option Value)} {oc10 kV10 dc10 pm10 ct10 cd10 : Value} {f11 : Addr} {od11 an11 : Option Addr} {sl11 : Array (Option Value)} {oc11 kV11 dc11 pm11 ct11 cd11 : Value} {f12 : Addr} {od12 an12 : Option Addr} {sl12 : Array (Option Value)} {oc12 kV12 dc12 pm12 ct12 cd12 : Value} {f13 : Addr} {od13 an13 : Option Addr} {sl13 : Array (Option Value)} {oc13 kV13 dc13 pm13 ct13 cd13 : Value} {f14 : Addr} {od14 an14 : Option Addr} {sl14 : Array (Option Value)} {oc14 kV14 dc14 pm14 ct14 cd14 : Value} {f15 : Addr} {od15 an15 : Option Addr} {sl15 : Array (Option Value)} {oc15 kV15 dc15 pm15 ct15 cd15 : Value} {f16 : Addr} {od16 an16 : Option Addr} {sl16 : Array (Option Value)} {oc16 kV16 dc16 pm16 ct16 cd16 : Value} {f17 : Addr} {od17 an17 : Option Addr} {sl17 : Array (Option Value)} {oc17 kV17 dc17 pm17 ct17 cd17 : Value} {f18 : Addr} {od18 an18 : Option Addr} {sl18 : Array (Option Value)} {oc18 kV18 dc18 pm18 ct18 cd18 : Value} {f19 : Addr} {od19 an19 : Option Addr} {sl19 : Array (Option Value)} {oc19 kV19 dc19 pm19 ct19 cd19 : Value} {f20 : Addr} {od20 an20 : Option Addr} {sl20 : Array (Option Value)} {oc20 kV20 dc20 pm20 ct20 cd20 : Value} {f21 : Addr} {od21 an21 : Option Addr} {sl21 : Array (Option Value)} {oc21 kV21 dc21 pm21 ct21 cd21 : Value} {f22 : Addr} {od22 an22 : Option Addr} {sl22 : Array (Option Value)} {oc22 kV22 dc22 pm22 ct22 cd22 : Value} {f23 : Addr} {od23 an23 : Option Addr} {sl23 : Array (Option Value)} {oc23 kV23 dc23 pm23 ct23 cd23 : Value} {f24 : Addr} {od24 an24 : Option Addr} {sl24 : Array (Option Value)} {oc24 kV24 dc24 pm24 ct24 cd24 : Value} {f25 : Addr} {od25 an25 : Option Addr} {sl25 : Array (Option Value)} {oc25 kV25 dc25 pm25 ct25 cd25 : Value} {f26 : Addr} {od26 an26 : Option Addr} {sl26 : Array (Option Value)} {oc26 kV26 dc26 pm26 ct26 cd26 : Value} {f27 : Addr} {od27 an27 : Option Addr} {sl27 : Array (Option Value)} {oc27 kV27 dc27 pm27 ct27 cd27 : Value} {f28 : Addr} {od28 an28 : Option Addr} {sl28 : Array (Option Value)} {oc28 kV28 dc28 pm28 ct28 cd28 : Value} {f29 : Addr} {od29 an29 : Option Addr} {sl29 : Array (Option Value)} {oc29 kV29 dc29 pm29 ct29 cd29 : Value} {f30 : Addr} {od30 an30 : Option Addr} {sl30 : Array (Option Value)} {oc30 kV30 dc30 pm30 ct30 cd30 : Value} {f31 : Addr} {od31 an31 : Option Addr} {sl31 : Array (Option Value)} {oc31 kV31 dc31 pm31 ct31 cd31 : Value} {f32 : Addr} {od32 an32 : Option Addr} {sl32 : Array (Option Value)} {oc32 kV32 dc32 pm32 ct32 cd32 : Value} {f33 : Addr} {od33 an33 : Option Addr} {sl33 : Array (Option Value)} {oc33 kV33 dc33 pm33 ct33 cd33 : Value} {f34 : Addr} {od34 an34 : Option Addr} {sl34 : Array (Option Value)} {oc34 kV34 dc34 pm34 ct34 cd34 : Value} {f35 : Addr} {od35 an35 : Option Addr} {sl35 : Array (Option Value)} {oc35 kV35 dc35 pm35 ct35 cd35 : Value} {f36 : Addr} {od36 an36 : Option Addr} {sl36 : Array (Option Value)} {oc36 kV36 dc36 pm36 ct36 cd36 : Value} {f37 : Addr} {od37 an37 : Option Addr} {sl37 : Array (Option Value)} {oc37 kV37 dc37 pm37 ct37 cd37 : Value} {f38 : Addr} {od38 an38 : Option Addr} {sl38 : Array (Option Value)} {oc38 kV38 dc38 pm38 ct38 cd38 : Value} {f39 : Addr} {od39 an39 : Option Addr} {sl39 : Array (Option Value)} {oc39 kV39 dc39 pm39 ct39 cd39 : Value} {f40 : Addr} {od40 an40 : Option Addr} {sl40 : Array (Option Value)} {oc40 kV40 dc40 pm40 ct40 cd40 : Value} {f41 : Addr} {od41 an41 : Option Addr} {sl41 : Array (Option Value)} {oc41 kV41 dc41 pm41 ct41 cd41 : Value} {f42 : Addr} {od42 an42 : Option Addr} {sl42 : Array (Option Value)} {oc42 kV42 dc42 pm42 ct42 cd42 : Value} {f43 : Addr} {od43 an43 : Option Addr} {sl43 : Array (Option Value)} {oc43 kV43 dc43 pm43 ct43 cd43 : Value} {f44 : Addr} {od44 an44 : Option Addr} {sl44 : Array (Option Value)} {oc44 kV44 dc44 pm44 ct44 cd44 : Value} {f45 : Addr} {od45 an45 : Option Addr} {sl45 : Array (Option Value)} {oc45 kV45 dc45 pm45 ct45 cd45 : Value} {f46 : Addr} {od46 an46 : Option Addr} {sl46 : Array (Option Value)} {oc46 kV46 dc46 pm46 ct46 cd46 : Value} {f47 : Addr} {od47 an47 : Option Addr} {sl47 : Array (Option Value)} {oc47 kV47 dc47 pm47 ct47 cd47 : Value} {f48 : Addr} {od48 an48 : Option Addr} {sl48 : Array (Option Value)} {oc48 kV48 dc48 pm48 ct48 cd48 : Value} {f49 : Addr} {od49 an49 : Option Addr} {sl49 : Array (Option Value)} {oc49 kV49 dc49 pm49 ct49 cd49 : Value} {f50 : Addr} {od50 an50 : Option Addr} {sl50 : Array (Option Value)} {oc50 kV50 dc50 pm50 ct50 cd50 : Value} {f51 : Addr} {od51 an51 : Option Addr} {sl51 : Array (Option Value)} {oc51 kV51 dc51 pm51 ct51 cd51 : Value} {u0 u1 u2 u3 u4 u5 u6 u7 u8 u9 u10 u11 : Tok} {aq1 aq2 aq3 : Addr} {oq1 oq2 oq3 : Option Addr} {iq1 iq2 iq3 : Array Value} {nq1 nq2 nq3 : Nat} {sq1 sq2 sq3 : Array (Option Value)} {CN CC : Addr} {I_nq : Addr} {od_nq an_nq : Option Addr} {sl_nq : Array (Option Value)} {oc_nq kV_nq dc_nq pm_nq cd_nq ct_nq : Value} {I_cI : Addr} {od_cI an_cI : Option Addr} {sl_cI : Array (Option Value)} {oc_cI kV_cI dc_cI pm_cI cd_cI ct_cI : Value} {I_cf : Addr} {od_cf an_cf : Option Addr} {sl_cf : Array (Option Value)} {oc_cf kV_cf dc_cf pm_cf cd_cf ct_cf : Value} {I_ch : Addr} {od_ch an_ch : Option Addr} {sl_ch : Array (Option Value)} {oc_ch kV_ch dc_ch pm_ch cd_ch ct_ch : Value} {I_cs : Addr} {od_cs an_cs : Option Addr} {sl_cs : Array (Option Value)} {oc_cs kV_cs dc_cs pm_cs cd_cs ct_cs : Value} {I_ct : Addr} {od_ct an_ct : Option Addr} {sl_ct : Array (Option Value)} {oc_ct kV_ct dc_ct pm_ct cd_ct ct_ct : Value} {I_cp : Addr} {od_cp an_cp : Option Addr} {sl_cp : Array (Option Value)} {oc_cp kV_cp dc_cp pm_cp cd_cp ct_cp : Value} {I_ce : Addr} {od_ce an_ce : Option Addr} {sl_ce : Array (Option Value)} {oc_ce kV_ce dc_ce pm_ce cd_ce ct_ce : Value} {I_ck : Addr} {od_ck an_ck : Option Addr} {sl_ck : Array (Option Value)} {oc_ck kV_ck dc_ck pm_ck cd_ck ct_ck : Value} {I_cz : Addr} {od_cz an_cz : Option Addr} {sl_cz : Array (Option Value)} {oc_cz kV_cz dc_cz pm_cz cd_cz ct_cz : Value}
    (a1 : PySem.W.nsIn K mainGlobals "is_text" = some (some (.ref f1)))
    (l1 : K.lookup f1 = some ⟨oc1, od1, .func (PySem.W.fnOf "is_text" "is_text" (defArgs sIsText) (defBody sIsText) (defScope sIsText) .none kV1 dc1 pm1 an1 cd1 ct1), sl1⟩)
    (c1 : PySem.W.codeIn K cd1 "is_text" = true)
    (k1 : PySem.W.keepIn K (.ref f1) = true)
    (a2 : PySem.W.nsIn K mainGlobals "is_name" = some (some (.ref f2)))
    (l2 : K.lookup f2 = some ⟨oc2, od2, .func (PySem.W.fnOf "is_name" "is_name" (defArgs sIsName) (defBody sIsName) (defScope sIsName) .none kV2 dc2 pm2 an2 cd2 ct2), sl2⟩)
    (c2 : PySem.W.codeIn K cd2 "is_name" = true)
    (k2 : PySem.W.keepIn K (.ref f2) = true)
    (a3 : PySem.W.nsIn K mainGlobals "is_run_part" = some (some (.ref f3)))
    (l3 : K.lookup f3 = some ⟨oc3, od3, .func (PySem.W.fnOf "is_run_part" "is_run_part" (defArgs sIsRunPart) (defBody sIsRunPart) (defScope sIsRunPart) .none kV3 dc3 pm3 an3 cd3 ct3), sl3⟩)
    (c3 : PySem.W.codeIn K cd3 "is_run_part" = true)
    (k3 : PySem.W.keepIn K (.ref f3) = true)
    (a4 : PySem.W.nsIn K mainGlobals "end_of_run" = some (some (.ref f4)))
    (l4 : K.lookup f4 = some ⟨oc4, od4, .func (PySem.W.fnOf "end_of_run" "end_of_run" (defArgs sEndOfRun) (defBody sEndOfRun) (defScope sEndOfRun) .none kV4 dc4 pm4 an4 cd4 ct4), sl4⟩)
    (c4 : PySem.W.codeIn K cd4 "end_of_run" = true)
    (k4 : PySem.W.keepIn K (.ref f4) = true)
    (a5 : PySem.W.nsIn K mainGlobals "is_number" = some (some (.ref f5)))
    (l5 : K.lookup f5 = some ⟨oc5, od5, .func (PySem.W.fnOf "is_number" "is_number" (defArgs sIsNumber) (defBody sIsNumber) (defScope sIsNumber) .none kV5 dc5 pm5 an5 cd5 ct5), sl5⟩)
    (c5 : PySem.W.codeIn K cd5 "is_number" = true)
    (k5 : PySem.W.keepIn K (.ref f5) = true)
    (a6 : PySem.W.nsIn K mainGlobals "run_word" = some (some (.ref f6)))
    (l6 : K.lookup f6 = some ⟨oc6, od6, .func (PySem.W.fnOf "run_word" "run_word" (defArgs sRunWord) (defBody sRunWord) (defScope sRunWord) .none kV6 dc6 pm6 an6 cd6 ct6), sl6⟩)
    (c6 : PySem.W.codeIn K cd6 "run_word" = true)
    (k6 : PySem.W.keepIn K (.ref f6) = true)
    (a7 : PySem.W.nsIn K mainGlobals "string_at" = some (some (.ref f7)))
    (l7 : K.lookup f7 = some ⟨oc7, od7, .func (PySem.W.fnOf "string_at" "string_at" (defArgs sStringAt) (defBody sStringAt) (defScope sStringAt) .none kV7 dc7 pm7 an7 cd7 ct7), sl7⟩)
    (c7 : PySem.W.codeIn K cd7 "string_at" = true)
    (k7 : PySem.W.keepIn K (.ref f7) = true)
    (a8 : PySem.W.nsIn K mainGlobals "string_word" = some (some (.ref f8)))
    (l8 : K.lookup f8 = some ⟨oc8, od8, .func (PySem.W.fnOf "string_word" "string_word" (defArgs sStringWord) (defBody sStringWord) (defScope sStringWord) .none kV8 dc8 pm8 an8 cd8 ct8), sl8⟩)
    (c8 : PySem.W.codeIn K cd8 "string_word" = true)
    (k8 : PySem.W.keepIn K (.ref f8) = true)
    (a9 : PySem.W.nsIn K mainGlobals "parameter_word" = some (some (.ref f9)))
    (l9 : K.lookup f9 = some ⟨oc9, od9, .func (PySem.W.fnOf "parameter_word" "parameter_word" (defArgs sParameterWord) (defBody sParameterWord) (defScope sParameterWord) .none kV9 dc9 pm9 an9 cd9 ct9), sl9⟩)
    (c9 : PySem.W.codeIn K cd9 "parameter_word" = true)
    (k9 : PySem.W.keepIn K (.ref f9) = true)
    (a10 : PySem.W.nsIn K mainGlobals "word_at" = some (some (.ref f10)))
    (l10 : K.lookup f10 = some ⟨oc10, od10, .func (PySem.W.fnOf "word_at" "word_at" (defArgs sWordAt) (defBody sWordAt) (defScope sWordAt) .none kV10 dc10 pm10 an10 cd10 ct10), sl10⟩)
    (c10 : PySem.W.codeIn K cd10 "word_at" = true)
    (k10 : PySem.W.keepIn K (.ref f10) = true)
    (a11 : PySem.W.nsIn K mainGlobals "words_of" = some (some (.ref f11)))
    (l11 : K.lookup f11 = some ⟨oc11, od11, .func (PySem.W.fnOf "words_of" "words_of" (defArgs sWordsOf) (defBody sWordsOf) (defScope sWordsOf) .none kV11 dc11 pm11 an11 cd11 ct11), sl11⟩)
    (c11 : PySem.W.codeIn K cd11 "words_of" = true)
    (k11 : PySem.W.keepIn K (.ref f11) = true)
    (a12 : PySem.W.nsIn K mainGlobals "read_question" = some (some (.ref f12)))
    (l12 : K.lookup f12 = some ⟨oc12, od12, .func (PySem.W.fnOf "read_question" "read_question" (defArgs sReadQuestion) (defBody sReadQuestion) (defScope sReadQuestion) .none kV12 dc12 pm12 an12 cd12 ct12), sl12⟩)
    (c12 : PySem.W.codeIn K cd12 "read_question" = true)
    (k12 : PySem.W.keepIn K (.ref f12) = true)
    (a13 : PySem.W.nsIn K mainGlobals "read_whole" = some (some (.ref f13)))
    (l13 : K.lookup f13 = some ⟨oc13, od13, .func (PySem.W.fnOf "read_whole" "read_whole" (defArgs sReadWhole) (defBody sReadWhole) (defScope sReadWhole) .none kV13 dc13 pm13 an13 cd13 ct13), sl13⟩)
    (c13 : PySem.W.codeIn K cd13 "read_whole" = true)
    (k13 : PySem.W.keepIn K (.ref f13) = true)
    (a14 : PySem.W.nsIn K mainGlobals "read_behind" = some (some (.ref f14)))
    (l14 : K.lookup f14 = some ⟨oc14, od14, .func (PySem.W.fnOf "read_behind" "read_behind" (defArgs sReadBehind) (defBody sReadBehind) (defScope sReadBehind) .none kV14 dc14 pm14 an14 cd14 ct14), sl14⟩)
    (c14 : PySem.W.codeIn K cd14 "read_behind" = true)
    (k14 : PySem.W.keepIn K (.ref f14) = true)
    (a15 : PySem.W.nsIn K mainGlobals "read_intersects" = some (some (.ref f15)))
    (l15 : K.lookup f15 = some ⟨oc15, od15, .func (PySem.W.fnOf "read_intersects" "read_intersects" (defArgs sReadIntersects) (defBody sReadIntersects) (defScope sReadIntersects) .none kV15 dc15 pm15 an15 cd15 ct15), sl15⟩)
    (c15 : PySem.W.codeIn K cd15 "read_intersects" = true)
    (k15 : PySem.W.keepIn K (.ref f15) = true)
    (a16 : PySem.W.nsIn K mainGlobals "read_key" = some (some (.ref f16)))
    (l16 : K.lookup f16 = some ⟨oc16, od16, .func (PySem.W.fnOf "read_key" "read_key" (defArgs sReadKey) (defBody sReadKey) (defScope sReadKey) .none kV16 dc16 pm16 an16 cd16 ct16), sl16⟩)
    (c16 : PySem.W.codeIn K cd16 "read_key" = true)
    (k16 : PySem.W.keepIn K (.ref f16) = true)
    (a17 : PySem.W.nsIn K mainGlobals "read_simple" = some (some (.ref f17)))
    (l17 : K.lookup f17 = some ⟨oc17, od17, .func (PySem.W.fnOf "read_simple" "read_simple" (defArgs sReadSimple) (defBody sReadSimple) (defScope sReadSimple) .none kV17 dc17 pm17 an17 cd17 ct17), sl17⟩)
    (c17 : PySem.W.codeIn K cd17 "read_simple" = true)
    (k17 : PySem.W.keepIn K (.ref f17) = true)
    (a18 : PySem.W.nsIn K mainGlobals "read_enclosed" = some (some (.ref f18)))
    (l18 : K.lookup f18 = some ⟨oc18, od18, .func (PySem.W.fnOf "read_enclosed" "read_enclosed" (defArgs sReadEnclosed) (defBody sReadEnclosed) (defScope sReadEnclosed) .none kV18 dc18 pm18 an18 cd18 ct18), sl18⟩)
    (c18 : PySem.W.codeIn K cd18 "read_enclosed" = true)
    (k18 : PySem.W.keepIn K (.ref f18) = true)
    (a19 : PySem.W.nsIn K mainGlobals "read_select" = some (some (.ref f19)))
    (l19 : K.lookup f19 = some ⟨oc19, od19, .func (PySem.W.fnOf "read_select" "read_select" (defArgs sReadSelect) (defBody sReadSelect) (defScope sReadSelect) .none kV19 dc19 pm19 an19 cd19 ct19), sl19⟩)
    (c19 : PySem.W.codeIn K cd19 "read_select" = true)
    (k19 : PySem.W.keepIn K (.ref f19) = true)
    (a20 : PySem.W.nsIn K mainGlobals "read_items" = some (some (.ref f20)))
    (l20 : K.lookup f20 = some ⟨oc20, od20, .func (PySem.W.fnOf "read_items" "read_items" (defArgs sReadItems) (defBody sReadItems) (defScope sReadItems) .none kV20 dc20 pm20 an20 cd20 ct20), sl20⟩)
    (c20 : PySem.W.codeIn K cd20 "read_items" = true)
    (k20 : PySem.W.keepIn K (.ref f20) = true)
    (a21 : PySem.W.nsIn K mainGlobals "read_item" = some (some (.ref f21)))
    (l21 : K.lookup f21 = some ⟨oc21, od21, .func (PySem.W.fnOf "read_item" "read_item" (defArgs sReadItem) (defBody sReadItem) (defScope sReadItem) .none kV21 dc21 pm21 an21 cd21 ct21), sl21⟩)
    (c21 : PySem.W.codeIn K cd21 "read_item" = true)
    (k21 : PySem.W.keepIn K (.ref f21) = true)
    (a22 : PySem.W.nsIn K mainGlobals "read_groups" = some (some (.ref f22)))
    (l22 : K.lookup f22 = some ⟨oc22, od22, .func (PySem.W.fnOf "read_groups" "read_groups" (defArgs sReadGroups) (defBody sReadGroups) (defScope sReadGroups) .none kV22 dc22 pm22 an22 cd22 ct22), sl22⟩)
    (c22 : PySem.W.codeIn K cd22 "read_groups" = true)
    (k22 : PySem.W.keepIn K (.ref f22) = true)
    (a23 : PySem.W.nsIn K mainGlobals "read_sources" = some (some (.ref f23)))
    (l23 : K.lookup f23 = some ⟨oc23, od23, .func (PySem.W.fnOf "read_sources" "read_sources" (defArgs sReadSources) (defBody sReadSources) (defScope sReadSources) .none kV23 dc23 pm23 an23 cd23 ct23), sl23⟩)
    (c23 : PySem.W.codeIn K cd23 "read_sources" = true)
    (k23 : PySem.W.keepIn K (.ref f23) = true)
    (a24 : PySem.W.nsIn K mainGlobals "read_joins" = some (some (.ref f24)))
    (l24 : K.lookup f24 = some ⟨oc24, od24, .func (PySem.W.fnOf "read_joins" "read_joins" (defArgs sReadJoins) (defBody sReadJoins) (defScope sReadJoins) .none kV24 dc24 pm24 an24 cd24 ct24), sl24⟩)
    (c24 : PySem.W.codeIn K cd24 "read_joins" = true)
    (k24 : PySem.W.keepIn K (.ref f24) = true)
    (a25 : PySem.W.nsIn K mainGlobals "read_join_kind" = some (some (.ref f25)))
    (l25 : K.lookup f25 = some ⟨oc25, od25, .func (PySem.W.fnOf "read_join_kind" "read_join_kind" (defArgs sReadJoinKind) (defBody sReadJoinKind) (defScope sReadJoinKind) .none kV25 dc25 pm25 an25 cd25 ct25), sl25⟩)
    (c25 : PySem.W.codeIn K cd25 "read_join_kind" = true)
    (k25 : PySem.W.keepIn K (.ref f25) = true)
    (a26 : PySem.W.nsIn K mainGlobals "read_single" = some (some (.ref f26)))
    (l26 : K.lookup f26 = some ⟨oc26, od26, .func (PySem.W.fnOf "read_single" "read_single" (defArgs sReadSingle) (defBody sReadSingle) (defScope sReadSingle) .none kV26 dc26 pm26 an26 cd26 ct26), sl26⟩)
    (c26 : PySem.W.codeIn K cd26 "read_single" = true)
    (k26 : PySem.W.keepIn K (.ref f26) = true)
    (a27 : PySem.W.nsIn K mainGlobals "read_aliased" = some (some (.ref f27)))
    (l27 : K.lookup f27 = some ⟨oc27, od27, .func (PySem.W.fnOf "read_aliased" "read_aliased" (defArgs sReadAliased) (defBody sReadAliased) (defScope sReadAliased) .none kV27 dc27 pm27 an27 cd27 ct27), sl27⟩)
    (c27 : PySem.W.codeIn K cd27 "read_aliased" = true)
    (k27 : PySem.W.keepIn K (.ref f27) = true)
    (a28 : PySem.W.nsIn K mainGlobals "read_opened" = some (some (.ref f28)))
    (l28 : K.lookup f28 = some ⟨oc28, od28, .func (PySem.W.fnOf "read_opened" "read_opened" (defArgs sReadOpened) (defBody sReadOpened) (defScope sReadOpened) .none kV28 dc28 pm28 an28 cd28 ct28), sl28⟩)
    (c28 : PySem.W.codeIn K cd28 "read_opened" = true)
    (k28 : PySem.W.keepIn K (.ref f28) = true)
    (a29 : PySem.W.nsIn K mainGlobals "read_behind_opened" = some (some (.ref f29)))
    (l29 : K.lookup f29 = some ⟨oc29, od29, .func (PySem.W.fnOf "read_behind_opened" "read_behind_opened" (defArgs sReadBehindOpened) (defBody sReadBehindOpened) (defScope sReadBehindOpened) .none kV29 dc29 pm29 an29 cd29 ct29), sl29⟩)
    (c29 : PySem.W.codeIn K cd29 "read_behind_opened" = true)
    (k29 : PySem.W.keepIn K (.ref f29) = true)
    (a30 : PySem.W.nsIn K mainGlobals "read_e" = some (some (.ref f30)))
    (l30 : K.lookup f30 = some ⟨oc30, od30, .func (PySem.W.fnOf "read_e" "read_e" (defArgs sReadE) (defBody sReadE) (defScope sReadE) .none kV30 dc30 pm30 an30 cd30 ct30), sl30⟩)
    (c30 : PySem.W.codeIn K cd30 "read_e" = true)
    (k30 : PySem.W.keepIn K (.ref f30) = true)
    (a31 : PySem.W.nsIn K mainGlobals "read_both" = some (some (.ref f31)))
    (l31 : K.lookup f31 = some ⟨oc31, od31, .func (PySem.W.fnOf "read_both" "read_both" (defArgs sReadBoth) (defBody sReadBoth) (defScope sReadBoth) .none kV31 dc31 pm31 an31 cd31 ct31), sl31⟩)
    (c31 : PySem.W.codeIn K cd31 "read_both" = true)
    (k31 : PySem.W.keepIn K (.ref f31) = true)
    (a32 : PySem.W.nsIn K mainGlobals "read_no" = some (some (.ref f32)))
    (l32 : K.lookup f32 = some ⟨oc32, od32, .func (PySem.W.fnOf "read_no" "read_no" (defArgs sReadNo) (defBody sReadNo) (defScope sReadNo) .none kV32 dc32 pm32 an32 cd32 ct32), sl32⟩)
    (c32 : PySem.W.codeIn K cd32 "read_no" = true)
    (k32 : PySem.W.keepIn K (.ref f32) = true)
    (a33 : PySem.W.nsIn K mainGlobals "read_test" = some (some (.ref f33)))
    (l33 : K.lookup f33 = some ⟨oc33, od33, .func (PySem.W.fnOf "read_test" "read_test" (defArgs sReadTest) (defBody sReadTest) (defScope sReadTest) .none kV33 dc33 pm33 an33 cd33 ct33), sl33⟩)
    (c33 : PySem.W.codeIn K cd33 "read_test" = true)
    (k33 : PySem.W.keepIn K (.ref f33) = true)
    (a34 : PySem.W.nsIn K mainGlobals "read_comparison" = some (some (.ref f34)))
    (l34 : K.lookup f34 = some ⟨oc34, od34, .func (PySem.W.fnOf "read_comparison" "read_comparison" (defArgs sReadComparison) (defBody sReadComparison) (defScope sReadComparison) .none kV34 dc34 pm34 an34 cd34 ct34), sl34⟩)
    (c34 : PySem.W.codeIn K cd34 "read_comparison" = true)
    (k34 : PySem.W.keepIn K (.ref f34) = true)
    (a35 : PySem.W.nsIn K mainGlobals "read_is" = some (some (.ref f35)))
    (l35 : K.lookup f35 = some ⟨oc35, od35, .func (PySem.W.fnOf "read_is" "read_is" (defArgs sReadIs) (defBody sReadIs) (defScope sReadIs) .none kV35 dc35 pm35 an35 cd35 ct35), sl35⟩)
    (c35 : PySem.W.codeIn K cd35 "read_is" = true)
    (k35 : PySem.W.keepIn K (.ref f35) = true)
    (a36 : PySem.W.nsIn K mainGlobals "read_sum" = some (some (.ref f36)))
    (l36 : K.lookup f36 = some ⟨oc36, od36, .func (PySem.W.fnOf "read_sum" "read_sum" (defArgs sReadSum) (defBody sReadSum) (defScope sReadSum) .none kV36 dc36 pm36 an36 cd36 ct36), sl36⟩)
    (c36 : PySem.W.codeIn K cd36 "read_sum" = true)
    (k36 : PySem.W.keepIn K (.ref f36) = true)
    (a37 : PySem.W.nsIn K mainGlobals "read_product" = some (some (.ref f37)))
    (l37 : K.lookup f37 = some ⟨oc37, od37, .func (PySem.W.fnOf "read_product" "read_product" (defArgs sReadProduct) (defBody sReadProduct) (defScope sReadProduct) .none kV37 dc37 pm37 an37 cd37 ct37), sl37⟩)
    (c37 : PySem.W.codeIn K cd37 "read_product" = true)
    (k37 : PySem.W.keepIn K (.ref f37) = true)
    (a38 : PySem.W.nsIn K mainGlobals "read_factor" = some (some (.ref f38)))
    (l38 : K.lookup f38 = some ⟨oc38, od38, .func (PySem.W.fnOf "read_factor" "read_factor" (defArgs sReadFactor) (defBody sReadFactor) (defScope sReadFactor) .none kV38 dc38 pm38 an38 cd38 ct38), sl38⟩)
    (c38 : PySem.W.codeIn K cd38 "read_factor" = true)
    (k38 : PySem.W.keepIn K (.ref f38) = true)
    (a39 : PySem.W.nsIn K mainGlobals "read_bare_factor" = some (some (.ref f39)))
    (l39 : K.lookup f39 = some ⟨oc39, od39, .func (PySem.W.fnOf "read_bare_factor" "read_bare_factor" (defArgs sReadBareFactor) (defBody sReadBareFactor) (defScope sReadBareFactor) .none kV39 dc39 pm39 an39 cd39 ct39), sl39⟩)
    (c39 : PySem.W.codeIn K cd39 "read_bare_factor" = true)
    (k39 : PySem.W.keepIn K (.ref f39) = true)
    (a40 : PySem.W.nsIn K mainGlobals "read_parenthesized" = some (some (.ref f40)))
    (l40 : K.lookup f40 = some ⟨oc40, od40, .func (PySem.W.fnOf "read_parenthesized" "read_parenthesized" (defArgs sReadParenthesized) (defBody sReadParenthesized) (defScope sReadParenthesized) .none kV40 dc40 pm40 an40 cd40 ct40), sl40⟩)
    (c40 : PySem.W.codeIn K cd40 "read_parenthesized" = true)
    (k40 : PySem.W.keepIn K (.ref f40) = true)
    (a41 : PySem.W.nsIn K mainGlobals "read_column" = some (some (.ref f41)))
    (l41 : K.lookup f41 = some ⟨oc41, od41, .func (PySem.W.fnOf "read_column" "read_column" (defArgs sReadColumn) (defBody sReadColumn) (defScope sReadColumn) .none kV41 dc41 pm41 an41 cd41 ct41), sl41⟩)
    (c41 : PySem.W.codeIn K cd41 "read_column" = true)
    (k41 : PySem.W.keepIn K (.ref f41) = true)
    (a42 : PySem.W.nsIn K mainGlobals "read_case" = some (some (.ref f42)))
    (l42 : K.lookup f42 = some ⟨oc42, od42, .func (PySem.W.fnOf "read_case" "read_case" (defArgs sReadCase) (defBody sReadCase) (defScope sReadCase) .none kV42 dc42 pm42 an42 cd42 ct42), sl42⟩)
    (c42 : PySem.W.codeIn K cd42 "read_case" = true)
    (k42 : PySem.W.keepIn K (.ref f42) = true)
    (a43 : PySem.W.nsIn K mainGlobals "read_choice" = some (some (.ref f43)))
    (l43 : K.lookup f43 = some ⟨oc43, od43, .func (PySem.W.fnOf "read_choice" "read_choice" (defArgs sReadChoice) (defBody sReadChoice) (defScope sReadChoice) .none kV43 dc43 pm43 an43 cd43 ct43), sl43⟩)
    (c43 : PySem.W.codeIn K cd43 "read_choice" = true)
    (k43 : PySem.W.keepIn K (.ref f43) = true)
    (a44 : PySem.W.nsIn K mainGlobals "read_coalesce" = some (some (.ref f44)))
    (l44 : K.lookup f44 = some ⟨oc44, od44, .func (PySem.W.fnOf "read_coalesce" "read_coalesce" (defArgs sReadCoalesce) (defBody sReadCoalesce) (defScope sReadCoalesce) .none kV44 dc44 pm44 an44 cd44 ct44), sl44⟩)
    (c44 : PySem.W.codeIn K cd44 "read_coalesce" = true)
    (k44 : PySem.W.keepIn K (.ref f44) = true)
    (a45 : PySem.W.nsIn K mainGlobals "read_count" = some (some (.ref f45)))
    (l45 : K.lookup f45 = some ⟨oc45, od45, .func (PySem.W.fnOf "read_count" "read_count" (defArgs sReadCount) (defBody sReadCount) (defScope sReadCount) .none kV45 dc45 pm45 an45 cd45 ct45), sl45⟩)
    (c45 : PySem.W.codeIn K cd45 "read_count" = true)
    (k45 : PySem.W.keepIn K (.ref f45) = true)
    (a46 : PySem.W.nsIn K mainGlobals "_law_begin" = some (some (.ref f46)))
    (l46 : K.lookup f46 = some ⟨oc46, od46, .func (PySem.W.fnOf "_law_begin" "_law_begin" (defArgs sBegin) (defBody sBegin) (defScope sBegin) .none kV46 dc46 pm46 an46 cd46 ct46), sl46⟩)
    (c46 : PySem.W.codeIn K cd46 "_law_begin" = true)
    (k46 : PySem.W.keepIn K (.ref f46) = true)
    (a47 : PySem.W.nsIn K mainGlobals "_law_draw" = some (some (.ref f47)))
    (l47 : K.lookup f47 = some ⟨oc47, od47, .func (PySem.W.fnOf "_law_draw" "_law_draw" (defArgs sDraw) (defBody sDraw) (defScope sDraw) .none kV47 dc47 pm47 an47 cd47 ct47), sl47⟩)
    (c47 : PySem.W.codeIn K cd47 "_law_draw" = true)
    (k47 : PySem.W.keepIn K (.ref f47) = true)
    (a48 : PySem.W.nsIn K mainGlobals "_law_pick" = some (some (.ref f48)))
    (l48 : K.lookup f48 = some ⟨oc48, od48, .func (PySem.W.fnOf "_law_pick" "_law_pick" (defArgs sPick) (defBody sPick) (defScope sPick) .none kV48 dc48 pm48 an48 cd48 ct48), sl48⟩)
    (c48 : PySem.W.codeIn K cd48 "_law_pick" = true)
    (k48 : PySem.W.keepIn K (.ref f48) = true)
    (a49 : PySem.W.nsIn K mainGlobals "_law_told" = some (some (.ref f49)))
    (l49 : K.lookup f49 = some ⟨oc49, od49, .func (PySem.W.fnOf "_law_told" "_law_told" (defArgs sLawTold) (defBody sLawTold) (defScope sLawTold) .none kV49 dc49 pm49 an49 cd49 ct49), sl49⟩)
    (c49 : PySem.W.codeIn K cd49 "_law_told" = true)
    (k49 : PySem.W.keepIn K (.ref f49) = true)
    (a50 : PySem.W.nsIn K mainGlobals "_law_shells" = some (some (.ref f50)))
    (l50 : K.lookup f50 = some ⟨oc50, od50, .func (PySem.W.fnOf "_law_shells" "_law_shells" (defArgs sLawShells) (defBody sLawShells) (defScope sLawShells) .none kV50 dc50 pm50 an50 cd50 ct50), sl50⟩)
    (c50 : PySem.W.codeIn K cd50 "_law_shells" = true)
    (k50 : PySem.W.keepIn K (.ref f50) = true)
    (a51 : PySem.W.nsIn K mainGlobals "law" = some (some (.ref f51)))
    (l51 : K.lookup f51 = some ⟨oc51, od51, .func (PySem.W.fnOf "law" "law" (defArgs sLaw) (defBody sLaw) (defScope sLaw) .none kV51 dc51 pm51 an51 cd51 ct51), sl51⟩)
    (c51 : PySem.W.codeIn K cd51 "law" = true)
    (k51 : PySem.W.keepIn K (.ref f51) = true)
    (z0 : PySem.W.nsIn K mainGlobals "len" = some none)
    (z1 : PySem.W.nsIn K mainGlobals "int" = some none)
    (z2 : PySem.W.nsIn K mainGlobals "str" = some none)
    (z3 : PySem.W.nsIn K mainGlobals "list" = some none)
    (z4 : PySem.W.nsIn K mainGlobals "tuple" = some none)
    (z5 : PySem.W.nsIn K mainGlobals "set" = some none)
    (z6 : PySem.W.nsIn K mainGlobals "all" = some none)
    (z7 : PySem.W.nsIn K mainGlobals "sorted" = some none)
    (z8 : PySem.W.nsIn K mainGlobals "isinstance" = some none)
    (z9 : PySem.W.nsIn K mainGlobals "range" = some none)
    (z10 : PySem.W.nsIn K mainGlobals "repr" = some none)
    (z11 : PySem.W.nsIn K mainGlobals "ValueError" = some none)
    (z12 : PySem.W.nsIn K mainGlobals "KeyError" = some none)
    (z13 : PySem.W.nsIn K mainGlobals "sum" = some none)
    (z14 : PySem.W.nsIn K mainGlobals "enumerate" = some none)
    (z15 : PySem.W.nsIn K mainGlobals "zip" = some none)
    (z16 : PySem.W.nsIn K mainGlobals "min" = some none)
    (z17 : PySem.W.nsIn K mainGlobals "dict" = some none)
    (z18 : PySem.W.nsIn K mainGlobals "ord" = some none)
    (m0 : PySem.W.nsIn K mainGlobals "WORD" = some (some (.str "word" u0)))
    (m1 : PySem.W.nsIn K mainGlobals "NAME" = some (some (.str "name" u1)))
    (m2 : PySem.W.nsIn K mainGlobals "INTEGER" = some (some (.str "integer" u2)))
    (m3 : PySem.W.nsIn K mainGlobals "STRING" = some (some (.str "string" u3)))
    (m4 : PySem.W.nsIn K mainGlobals "PARAMETER" = some (some (.str "parameter" u4)))
    (m5 : PySem.W.nsIn K mainGlobals "WRONG" = some (some (.str "wrong" u5)))
    (m6 : PySem.W.nsIn K mainGlobals "END" = some (some (.str "end" u6)))
    (m7 : PySem.W.nsIn K mainGlobals "MOST_OPEN" = some (some (.int 30 u7)))
    (m8 : PySem.W.nsIn K mainGlobals "MOST_LETTERS" = some (some (.int 12 u8)))
    (m9 : PySem.W.nsIn K mainGlobals "MOST_CHARACTERS" = some (some (.int 40 u9)))
    (m10 : PySem.W.nsIn K mainGlobals "PERCENT" = some (some (.int 37 u10)))
    (m11 : PySem.W.nsIn K mainGlobals "MOST_DIGITS" = some (some (.int 40 u11)))
    (w1 : PySem.W.nsIn K mainGlobals "KEYWORDS" = some (some (.ref aq1)))
    (x1 : K.lookup aq1 = some ⟨.type "tuple", oq1, .seq iq1 nq1, sq1⟩)
    (v1 : Vals (kwN.map fun z => V.str (So z)) iq1.toList)
    (y1 : iq1.size ≤ sizeLine)
    (w2 : PySem.W.nsIn K mainGlobals "SIGNS" = some (some (.ref aq2)))
    (x2 : K.lookup aq2 = some ⟨.type "tuple", oq2, .seq iq2 nq2, sq2⟩)
    (v2 : Vals (sigN.map fun z => V.str (So z)) iq2.toList)
    (y2 : iq2.size ≤ sizeLine)
    (w3 : PySem.W.nsIn K mainGlobals "COMPARISONS" = some (some (.ref aq3)))
    (x3 : K.lookup aq3 = some ⟨.type "tuple", oq3, .seq iq3 nq3, sq3⟩)
    (v3 : Vals (cmpW.map fun z => V.str (So z)) iq3.toList)
    (y3 : iq3.size ≤ sizeLine)
    (gCN : PySem.W.nsIn K mainGlobals "NoQuestion" = some (some (.ref CN)))
    (gCC : PySem.W.nsIn K mainGlobals "Cursor" = some (some (.ref CC)))
    (h_nq : PySem.W.findIn K (.ref CN) "__init__" = some (some (.ref I_nq)))
    (l_nq : K.lookup I_nq = some ⟨oc_nq, od_nq, .func (PySem.W.fnOf "__init__" "NoQuestion.__init__" (defArgs sNqI) (defBody sNqI) (defScope sNqI) .none kV_nq dc_nq pm_nq an_nq cd_nq ct_nq), sl_nq⟩)
    (c_nq : PySem.W.codeIn K cd_nq "NoQuestion.__init__" = true)
    (k_nq : PySem.W.keepIn K (.ref I_nq) = true)
    (t_nq : PySem.W.typeIn K (.ref I_nq) = some (.type "function"))
    (h_cI : PySem.W.findIn K (.ref CC) "__init__" = some (some (.ref I_cI)))
    (l_cI : K.lookup I_cI = some ⟨oc_cI, od_cI, .func (PySem.W.fnOf "__init__" "Cursor.__init__" (defArgs sCurI) (defBody sCurI) (defScope sCurI) .none kV_cI dc_cI pm_cI an_cI cd_cI ct_cI), sl_cI⟩)
    (c_cI : PySem.W.codeIn K cd_cI "Cursor.__init__" = true)
    (k_cI : PySem.W.keepIn K (.ref I_cI) = true)
    (t_cI : PySem.W.typeIn K (.ref I_cI) = some (.type "function"))
    (h_cf : PySem.W.findIn K (.ref CC) "fail" = some (some (.ref I_cf)))
    (l_cf : K.lookup I_cf = some ⟨oc_cf, od_cf, .func (PySem.W.fnOf "fail" "Cursor.fail" (defArgs sCurFail) (defBody sCurFail) (defScope sCurFail) .none kV_cf dc_cf pm_cf an_cf cd_cf ct_cf), sl_cf⟩)
    (c_cf : PySem.W.codeIn K cd_cf "Cursor.fail" = true)
    (k_cf : PySem.W.keepIn K (.ref I_cf) = true)
    (t_cf : PySem.W.typeIn K (.ref I_cf) = some (.type "function"))
    (h_ch : PySem.W.findIn K (.ref CC) "holds" = some (some (.ref I_ch)))
    (l_ch : K.lookup I_ch = some ⟨oc_ch, od_ch, .func (PySem.W.fnOf "holds" "Cursor.holds" (defArgs sCurHolds) (defBody sCurHolds) (defScope sCurHolds) .none kV_ch dc_ch pm_ch an_ch cd_ch ct_ch), sl_ch⟩)
    (c_ch : PySem.W.codeIn K cd_ch "Cursor.holds" = true)
    (k_ch : PySem.W.keepIn K (.ref I_ch) = true)
    (t_ch : PySem.W.typeIn K (.ref I_ch) = some (.type "function"))
    (h_cs : PySem.W.findIn K (.ref CC) "sees" = some (some (.ref I_cs)))
    (l_cs : K.lookup I_cs = some ⟨oc_cs, od_cs, .func (PySem.W.fnOf "sees" "Cursor.sees" (defArgs sCurSees) (defBody sCurSees) (defScope sCurSees) .none kV_cs dc_cs pm_cs an_cs cd_cs ct_cs), sl_cs⟩)
    (c_cs : PySem.W.codeIn K cd_cs "Cursor.sees" = true)
    (k_cs : PySem.W.keepIn K (.ref I_cs) = true)
    (t_cs : PySem.W.typeIn K (.ref I_cs) = some (.type "function"))
    (h_ct : PySem.W.findIn K (.ref CC) "step" = some (some (.ref I_ct)))
    (l_ct : K.lookup I_ct = some ⟨oc_ct, od_ct, .func (PySem.W.fnOf "step" "Cursor.step" (defArgs sCurStep) (defBody sCurStep) (defScope sCurStep) .none kV_ct dc_ct pm_ct an_ct cd_ct ct_ct), sl_ct⟩)
    (c_ct : PySem.W.codeIn K cd_ct "Cursor.step" = true)
    (k_ct : PySem.W.keepIn K (.ref I_ct) = true)
    (t_ct : PySem.W.typeIn K (.ref I_ct) = some (.type "function"))
    (h_cp : PySem.W.findIn K (.ref CC) "passes" = some (some (.ref I_cp)))
    (l_cp : K.lookup I_cp = some ⟨oc_cp, od_cp, .func (PySem.W.fnOf "passes" "Cursor.passes" (defArgs sCurPass) (defBody sCurPass) (defScope sCurPass) .none kV_cp dc_cp pm_cp an_cp cd_cp ct_cp), sl_cp⟩)
    (c_cp : PySem.W.codeIn K cd_cp "Cursor.passes" = true)
    (k_cp : PySem.W.keepIn K (.ref I_cp) = true)
    (t_cp : PySem.W.typeIn K (.ref I_cp) = some (.type "function"))
    (h_ce : PySem.W.findIn K (.ref CC) "expect" = some (some (.ref I_ce)))
    (l_ce : K.lookup I_ce = some ⟨oc_ce, od_ce, .func (PySem.W.fnOf "expect" "Cursor.expect" (defArgs sCurExp) (defBody sCurExp) (defScope sCurExp) .none kV_ce dc_ce pm_ce an_ce cd_ce ct_ce), sl_ce⟩)
    (c_ce : PySem.W.codeIn K cd_ce "Cursor.expect" = true)
    (k_ce : PySem.W.keepIn K (.ref I_ce) = true)
    (t_ce : PySem.W.typeIn K (.ref I_ce) = some (.type "function"))
    (h_ck : PySem.W.findIn K (.ref CC) "take" = some (some (.ref I_ck)))
    (l_ck : K.lookup I_ck = some ⟨oc_ck, od_ck, .func (PySem.W.fnOf "take" "Cursor.take" (defArgs sCurTake) (defBody sCurTake) (defScope sCurTake) .none kV_ck dc_ck pm_ck an_ck cd_ck ct_ck), sl_ck⟩)
    (c_ck : PySem.W.codeIn K cd_ck "Cursor.take" = true)
    (k_ck : PySem.W.keepIn K (.ref I_ck) = true)
    (t_ck : PySem.W.typeIn K (.ref I_ck) = some (.type "function"))
    (h_cz : PySem.W.findIn K (.ref CC) "finish" = some (some (.ref I_cz)))
    (l_cz : K.lookup I_cz = some ⟨oc_cz, od_cz, .func (PySem.W.fnOf "finish" "Cursor.finish" (defArgs sCurFin) (defBody sCurFin) (defScope sCurFin) .none kV_cz dc_cz pm_cz an_cz cd_cz ct_cz), sl_cz⟩)
    (c_cz : PySem.W.codeIn K cd_cz "Cursor.finish" = true)
    (k_cz : PySem.W.keepIn K (.ref I_cz) = true)
    (t_cz : PySem.W.typeIn K (.ref I_cz) = some (.type "function"))
    (no : PySem.W.findIn K (.ref CN) "place" = some none)
    (gf : PySem.W.specialIn K (.ref I_cs) "__get__" = some (some (.builtin "function.__get__")))
    (tk : PySem.W.takesIn K (.ref I_cs) = some false)
    (eN : erB K CN 0 = true)
    (xN : xB K CN = true)
    (oC : clsB K CC = true)
    (nC : nosB K CC ["_words", "_reached", "_depth"] = true)
    (mkC : mkB K CC = true)
    (fC : PySem.W.fnIn K I_cs = true) :
    ∃ (fd : FuncData), Fun K "law" "law" sLaw fa fd ∧ (∀ (s : Shared) (u : Value), BindsTo s fd ⟨[u], []⟩ [("_law_script", u)]) ∧ ∀ (base : Heap) (s₁ : Shared) (H : Hp) (a : Addr) (ns : List Int) (cdv : Value), K.In base → base.Ns mainGlobals mg → SqL K H a (ns.map V.int) → ns.length ≤ 63 →
      Room 230 (callerA.deeper (envOfC "law" (defScope sLaw) s₁.heap.objs.size fa cdv)) → (callerA.deeper (envOfC "law" (defScope sLaw) s₁.heap.objs.size fa cdv)).guards = some [] →
      ∃ t, PSs (cxOf CX0 l.prog w K mg base n_law "law" (defScope sLaw) fa cdv callerA [] s₁ H fun _ _ _ => False).nox (defBody sLaw) t ∧ t { nx := fun _ _ => V.non = V.bl true, rt := fun v _ => v = .bl true } (start n_law [.ref a]) H := by
  have e := hfa.symm.trans (PySem.W.mg_of X G a51)
  cases e
  have B : Blt mg := ⟨PySem.W.mg_none_of X G z0, PySem.W.mg_none_of X G z1, PySem.W.mg_none_of X G z2, PySem.W.mg_none_of X G z3, PySem.W.mg_none_of X G z4, PySem.W.mg_none_of X G z5, PySem.W.mg_none_of X G z6, PySem.W.mg_none_of X G z7, PySem.W.mg_none_of X G z8, PySem.W.mg_none_of X G z9, PySem.W.mg_none_of X G z10, PySem.W.mg_none_of X G z11, PySem.W.mg_none_of X G z12, PySem.W.mg_none_of X G z13, PySem.W.mg_none_of X G z14, PySem.W.mg_none_of X G z15, PySem.W.mg_none_of X G z16, PySem.W.mg_none_of X G z17, PySem.W.mg_none_of X G z18⟩
  have F1 := fun_mk (st := sIsText) l1 c1 k1
  have b1 := F1.binds (ps := ["thing"]) fun _ _ _ _ _ _ us hl => match us, hl with | [_], _ => rfl
  have F2 := fun_mk (st := sIsName) l2 c2 k2
  have b2 := F2.binds (ps := ["thing"]) fun _ _ _ _ _ _ us hl => match us, hl with | [_], _ => rfl
  have F3 := fun_mk (st := sIsRunPart) l3 c3 k3
  have b3 := F3.binds (ps := ["character"]) fun _ _ _ _ _ _ us hl => match us, hl with | [_], _ => rfl
  have F4 := fun_mk (st := sEndOfRun) l4 c4 k4
  have b4 := F4.binds (ps := ["text", "place"]) fun _ _ _ _ _ _ us hl => match us, hl with | [_, _], _ => rfl
  have F5 := fun_mk (st := sIsNumber) l5 c5 k5
  have b5 := F5.binds (ps := ["run"]) fun _ _ _ _ _ _ us hl => match us, hl with | [_], _ => rfl
  have F6 := fun_mk (st := sRunWord) l6 c6 k6
  have b6 := F6.binds (ps := ["run"]) fun _ _ _ _ _ _ us hl => match us, hl with | [_], _ => rfl
  have F7 := fun_mk (st := sStringAt) l7 c7 k7
  have b7 := F7.binds (ps := ["text", "place"]) fun _ _ _ _ _ _ us hl => match us, hl with | [_, _], _ => rfl
  have F8 := fun_mk (st := sStringWord) l8 c8 k8
  have b8 := F8.binds (ps := ["text", "place"]) fun _ _ _ _ _ _ us hl => match us, hl with | [_, _], _ => rfl
  have F9 := fun_mk (st := sParameterWord) l9 c9 k9
  have b9 := F9.binds (ps := ["text", "place"]) fun _ _ _ _ _ _ us hl => match us, hl with | [_, _], _ => rfl
  have F10 := fun_mk (st := sWordAt) l10 c10 k10
  have b10 := F10.binds (ps := ["text", "place"]) fun _ _ _ _ _ _ us hl => match us, hl with | [_, _], _ => rfl
  have F11 := fun_mk (st := sWordsOf) l11 c11 k11
  have b11 := F11.binds (ps := ["text"]) fun _ _ _ _ _ _ us hl => match us, hl with | [_], _ => rfl
  have F12 := fun_mk (st := sReadQuestion) l12 c12 k12
  have F13 := fun_mk (st := sReadWhole) l13 c13 k13
  have F14 := fun_mk (st := sReadBehind) l14 c14 k14
  have F15 := fun_mk (st := sReadIntersects) l15 c15 k15
  have F16 := fun_mk (st := sReadKey) l16 c16 k16
  have F17 := fun_mk (st := sReadSimple) l17 c17 k17
  have F18 := fun_mk (st := sReadEnclosed) l18 c18 k18
  have F19 := fun_mk (st := sReadSelect) l19 c19 k19
  have F20 := fun_mk (st := sReadItems) l20 c20 k20
  have F21 := fun_mk (st := sReadItem) l21 c21 k21
  have F22 := fun_mk (st := sReadGroups) l22 c22 k22
  have F23 := fun_mk (st := sReadSources) l23 c23 k23
  have F24 := fun_mk (st := sReadJoins) l24 c24 k24
  have F25 := fun_mk (st := sReadJoinKind) l25 c25 k25
  have F26 := fun_mk (st := sReadSingle) l26 c26 k26
  have F27 := fun_mk (st := sReadAliased) l27 c27 k27
  have F28 := fun_mk (st := sReadOpened) l28 c28 k28
  have F29 := fun_mk (st := sReadBehindOpened) l29 c29 k29
  have F30 := fun_mk (st := sReadE) l30 c30 k30
  have F31 := fun_mk (st := sReadBoth) l31 c31 k31
  have F32 := fun_mk (st := sReadNo) l32 c32 k32
  have F33 := fun_mk (st := sReadTest) l33 c33 k33
  have F34 := fun_mk (st := sReadComparison) l34 c34 k34
  have F35 := fun_mk (st := sReadIs) l35 c35 k35
  have F36 := fun_mk (st := sReadSum) l36 c36 k36
  have F37 := fun_mk (st := sReadProduct) l37 c37 k37
  have F38 := fun_mk (st := sReadFactor) l38 c38 k38
  have F39 := fun_mk (st := sReadBareFactor) l39 c39 k39
  have F40 := fun_mk (st := sReadParenthesized) l40 c40 k40
  have F41 := fun_mk (st := sReadColumn) l41 c41 k41
  have F42 := fun_mk (st := sReadCase) l42 c42 k42
  have F43 := fun_mk (st := sReadChoice) l43 c43 k43
  have F44 := fun_mk (st := sReadCoalesce) l44 c44 k44
  have F45 := fun_mk (st := sReadCount) l45 c45 k45
  have F46 := fun_mk (st := sBegin) l46 c46 k46
  have b46 := F46.binds (ps := ["_law_script"]) fun _ _ _ _ _ _ us hl => match us, hl with | [_], _ => rfl
  have F47 := fun_mk (st := sDraw) l47 c47 k47
  have b47 := F47.binds (ps := ["_law_tape", "_law_many"]) fun _ _ _ _ _ _ us hl => match us, hl with | [_, _], _ => rfl
  have F48 := fun_mk (st := sPick) l48 c48 k48
  have b48 := F48.binds (ps := ["_law_tape", "_law_items"]) fun _ _ _ _ _ _ us hl => match us, hl with | [_, _], _ => rfl
  have F49 := fun_mk (st := sLawTold) l49 c49 k49
  have b49 := F49.binds (ps := ["_law_text"]) fun _ _ _ _ _ _ us hl => match us, hl with | [_], _ => rfl
  have F50 := fun_mk (st := sLawShells) l50 c50 k50
  have b50 := F50.binds (ps := ["_law_tape", "_law_many"]) fun _ _ _ _ _ _ us hl => match us, hl with | [_, _], _ => rfl
  have F51 := fun_mk (st := sLaw) l51 c51 k51
  have F_nq := fun_mk (st := sNqI) l_nq c_nq k_nq
  have b_nq := F_nq.binds (ps := ["self", "place"]) fun _ _ _ _ _ _ us hl => match us, hl with | [_, _], _ => rfl
  have F_cI := fun_mk (st := sCurI) l_cI c_cI k_cI
  have b_cI := F_cI.binds (ps := ["self", "text"]) fun _ _ _ _ _ _ us hl => match us, hl with | [_, _], _ => rfl
  have F_cf := fun_mk (st := sCurFail) l_cf c_cf k_cf
  have b_cf := F_cf.binds (ps := ["self"]) fun _ _ _ _ _ _ us hl => match us, hl with | [_], _ => rfl
  have F_ch := fun_mk (st := sCurHolds) l_ch c_ch k_ch
  have b_ch := F_ch.binds (ps := ["self", "kind"]) fun _ _ _ _ _ _ us hl => match us, hl with | [_, _], _ => rfl
  have F_cs := fun_mk (st := sCurSees) l_cs c_cs k_cs
  have F_ct := fun_mk (st := sCurStep) l_ct c_ct k_ct
  have b_ct := F_ct.binds (ps := ["self"]) fun _ _ _ _ _ _ us hl => match us, hl with | [_], _ => rfl
  have F_cp := fun_mk (st := sCurPass) l_cp c_cp k_cp
  have b_cp := F_cp.binds (ps := ["self", "word"]) fun _ _ _ _ _ _ us hl => match us, hl with | [_, _], _ => rfl
  have F_ce := fun_mk (st := sCurExp) l_ce c_ce k_ce
  have b_ce := F_ce.binds (ps := ["self", "word"]) fun _ _ _ _ _ _ us hl => match us, hl with | [_, _], _ => rfl
  have F_ck := fun_mk (st := sCurTake) l_ck c_ck k_ck
  have b_ck := F_ck.binds (ps := ["self", "kind"]) fun _ _ _ _ _ _ us hl => match us, hl with | [_, _], _ => rfl
  have F_cz := fun_mk (st := sCurFin) l_cz c_cz k_cz
  have b_cz := F_cz.binds (ps := ["self"]) fun _ _ _ _ _ _ us hl => match us, hl with | [_], _ => rfl
  refine ⟨_, F51, fun s v => .of_eq rfl, fun base s₁ H a ns cdv _ _ hS _ hr hg => ?_⟩
  have gN' := PySem.W.mg_of X G gCN
  have gC' := PySem.W.mg_of X G gCC
  have RG : RdG mg := ⟨⟨_, PySem.W.mg_of X G m0⟩, ⟨_, PySem.W.mg_of X G m1⟩, ⟨_, PySem.W.mg_of X G m2⟩, ⟨_, PySem.W.mg_of X G m3⟩, ⟨_, PySem.W.mg_of X G m4⟩, ⟨_, PySem.W.mg_of X G m5⟩, ⟨_, PySem.W.mg_of X G m6⟩, ⟨_, PySem.W.mg_of X G m7⟩⟩
  have SG : ScG K mg := ⟨RG, ⟨_, PySem.W.mg_of X G m8⟩, ⟨_, PySem.W.mg_of X G m9⟩, ⟨_, PySem.W.mg_of X G m10⟩, ⟨_, PySem.W.mg_of X G m11⟩, ⟨aq1, PySem.W.mg_of X G w1, fun H => .inr ⟨_, iq1, nq1, x1, rfl, rfl, y1, v1⟩⟩, ⟨aq2, PySem.W.mg_of X G w2, fun H => .inr ⟨_, iq2, nq2, x2, rfl, rfl, y2, v2⟩⟩⟩
  have NC := nosB_ok nC
  have TC : CurC K CC := ⟨clsB_ok oC, NC _ (.head _), NC _ (.tail _ (.head _)), NC _ (.tail _ (.tail _ (.head _)))⟩
  have ER : ErW l.prog w K mg base CN "NoQuestion" "place" := erw_mk eN xN no gN' h_nq t_nq b_nq (ok_nqI F_nq)
  have D3 : Dn l.prog w K mg base 1 "is_run_part" ["character"] (spPu fun vs v => ∃ c, vs = [.str (So [c])] ∧ v = .bl (runC c)) := ⟨f3, _, PySem.W.mg_of X G a3, k3, b3, ok_isrun F3⟩
  have D4 : Dn l.prog w K mg base 2 "end_of_run" ["text", "place"] spEndR := ⟨f4, _, PySem.W.mg_of X G a4, k4, b4, ok_endrun F4 B D3⟩
  have D2 : Dn l.prog w K mg base 1 "is_name" ["thing"] spNm := ⟨f2, _, PySem.W.mg_of X G a2, k2, b2, ok_isname F2 B SG⟩
  have D1 : Dn l.prog w K mg base 1 "is_text" ["thing"] spTx := ⟨f1, _, PySem.W.mg_of X G a1, k1, b1, ok_istext F1 B SG⟩
  have D5 : Dn l.prog w K mg base 1 "is_number" ["run"] spNum := ⟨f5, _, PySem.W.mg_of X G a5, k5, b5, ok_isnum F5 B SG⟩
  have D6 : Dn l.prog w K mg base 2 "run_word" ["run"] spRunW := ⟨f6, _, PySem.W.mg_of X G a6, k6, b6, ok_runw F6 B SG D2 D5⟩
  have D7 : Dn l.prog w K mg base 1 "string_at" ["text", "place"] spStrAt := ⟨f7, _, PySem.W.mg_of X G a7, k7, b7, ok_strat F7 B⟩
  have D8 : Dn l.prog w K mg base 2 "string_word" ["text", "place"] (spWd strW okAll) := ⟨f8, _, PySem.W.mg_of X G a8, k8, b8, ok_strw F8 SG D7 D1⟩
  have D9 : Dn l.prog w K mg base 3 "parameter_word" ["text", "place"] (spWd parW okAll) := ⟨f9, _, PySem.W.mg_of X G a9, k9, b9, ok_parw F9 SG D4 D2⟩
  have D10 : Dn l.prog w K mg base 4 "word_at" ["text", "place"] (spWd wordW okAll) := ⟨f10, _, PySem.W.mg_of X G a10, k10, b10, ok_word F10 B SG D3 D4 D6 D8 D9⟩
  have D11 : Dn l.prog w K mg base 5 "words_of" ["text"] spWords := ⟨f11, _, PySem.W.mg_of X G a11, k11, b11, ok_words F11 B SG D10⟩
  have MC : MkCur l.prog w K mg base CC := ⟨I_cI, _, mk_mk mkC h_cI t_cI, gC', b_cI, ok_curI F_cI TC D11⟩
  have M_cf : Met1 l.prog w K mg base CC (L2.CX l.prog w) 3 "fail" ["self"] (spC CC CN isU pFail) := ⟨I_cf, _, ⟨h_cf, isFn_of t_cf, k_cf⟩, b_cf, ok_cfail F_cf TC ER⟩
  have M_ch : Met1 l.prog w K mg base CC CX0 1 "holds" ["self", "kind"] (spCk CC CN isB pHolds) := ⟨I_ch, _, ⟨h_ch, isFn_of t_ch, k_ch⟩, b_ch, ok_cholds F_ch TC⟩
  have RS := ok_csees (CN := CN) F_cs TC RG M_ch.ex
  have M_cs : MetX l.prog w K mg base CC 2 "sees" (spSees CC CN) := ⟨I_cs, ⟨h_cs, isFn_of t_cs, k_cs⟩, RS⟩
  have M_ct : Met1 l.prog w K mg base CC (L2.CX l.prog w) 4 "step" ["self"] (spC CC CN RtAt pStep) := ⟨I_ct, _, ⟨h_ct, isFn_of t_ct, k_ct⟩, b_ct, ok_cstep F_ct TC RG M_cs M_cf⟩
  have M_cp : Met1 l.prog w K mg base CC (L2.CX l.prog w) 5 "passes" ["self", "word"] (spCs CC CN isB pPass) := ⟨I_cp, _, ⟨h_cp, isFn_of t_cp, k_cp⟩, b_cp, ok_cpass F_cp TC M_cs M_ct⟩
  have M_ce : Met1 l.prog w K mg base CC (L2.CX l.prog w) 6 "expect" ["self", "word"] (spCs CC CN isU pExp) := ⟨I_ce, _, ⟨h_ce, isFn_of t_ce, k_ce⟩, b_ce, ok_cexp F_ce TC M_cp M_cf⟩
  have M_ck : Met1 l.prog w K mg base CC (L2.CX l.prog w) 5 "take" ["self", "kind"] (spCk CC CN RtAt pTake) := ⟨I_ck, _, ⟨h_ck, isFn_of t_ck, k_ck⟩, b_ck, ok_ctake F_ck TC M_ch M_cf M_ct⟩
  have M_cz : Met1 l.prog w K mg base CC (L2.CX l.prog w) 5 "finish" ["self"] (spC CC CN isU rFinish) := ⟨I_cz, _, ⟨h_cz, isFn_of t_cz, k_cz⟩, b_cz, ok_cfin F_cz TC RG M_ch M_cf⟩
  have CU : Cur l.prog w K mg base CC CN := ⟨TC, RG, M_cs, ⟨I_cs, ⟨⟨h_cs, isFn_of t_cs, k_cs⟩, gf, tk, by decide +kernel, fC⟩, RS⟩, M_cf, M_ch, M_ct, M_cp, M_ce, M_ck, M_cz⟩
  have RA : RdAll K mg := ⟨⟨f16, _, F16, PySem.W.mg_of X G a16, k16⟩, ⟨f41, _, F41, PySem.W.mg_of X G a41, k41⟩, ⟨f25, _, F25, PySem.W.mg_of X G a25, k25⟩, ⟨f27, _, F27, PySem.W.mg_of X G a27, k27⟩, ⟨f18, _, F18, PySem.W.mg_of X G a18, k18⟩, ⟨f40, _, F40, PySem.W.mg_of X G a40, k40⟩, ⟨f43, _, F43, PySem.W.mg_of X G a43, k43⟩, ⟨f45, _, F45, PySem.W.mg_of X G a45, k45⟩, ⟨f22, _, F22, PySem.W.mg_of X G a22, k22⟩, ⟨f42, _, F42, PySem.W.mg_of X G a42, k42⟩, ⟨f44, _, F44, PySem.W.mg_of X G a44, k44⟩, ⟨f20, _, F20, PySem.W.mg_of X G a20, k20⟩, ⟨f31, _, F31, PySem.W.mg_of X G a31, k31⟩, ⟨f30, _, F30, PySem.W.mg_of X G a30, k30⟩, ⟨f39, _, F39, PySem.W.mg_of X G a39, k39⟩, ⟨f38, _, F38, PySem.W.mg_of X G a38, k38⟩, ⟨f37, _, F37, PySem.W.mg_of X G a37, k37⟩, ⟨f36, _, F36, PySem.W.mg_of X G a36, k36⟩, ⟨f35, _, F35, PySem.W.mg_of X G a35, k35⟩, ⟨f34, _, F34, PySem.W.mg_of X G a34, k34⟩, ⟨f33, _, F33, PySem.W.mg_of X G a33, k33⟩, ⟨f32, _, F32, PySem.W.mg_of X G a32, k32⟩, ⟨f26, _, F26, PySem.W.mg_of X G a26, k26⟩, ⟨f24, _, F24, PySem.W.mg_of X G a24, k24⟩, ⟨f23, _, F23, PySem.W.mg_of X G a23, k23⟩, ⟨f21, _, F21, PySem.W.mg_of X G a21, k21⟩, ⟨f19, _, F19, PySem.W.mg_of X G a19, k19⟩, ⟨f17, _, F17, PySem.W.mg_of X G a17, k17⟩, ⟨f15, _, F15, PySem.W.mg_of X G a15, k15⟩, ⟨f14, _, F14, PySem.W.mg_of X G a14, k14⟩, ⟨f13, _, F13, PySem.W.mg_of X G a13, k13⟩, ⟨f29, _, F29, PySem.W.mg_of X G a29, k29⟩, ⟨f28, _, F28, PySem.W.mg_of X G a28, k28⟩⟩
  have RN : RdN l.prog w K mg base CC CN 33 := rdn_all RA CU B (PySem.W.mg_of X G w3) (fun H => .inr ⟨_, iq3, nq3, x3, rfl, rfl, y3, v3⟩) 33
  have DQ : DnM l.prog w K mg base 628 "read_question" (spQ K CN) := ⟨f12, PySem.W.mg_of X G a12, k12, ok_readq F12 B ER MC CU RN⟩
  have D46 : Dn l.prog w K mg base 1 "_law_begin" ["_law_script"] (spBegin K) := ⟨f46, _, PySem.W.mg_of X G a46, k46, b46, ok_begin F46⟩
  have D47 : Dn l.prog w K mg base 1 "_law_draw" ["_law_tape", "_law_many"] spDraw := ⟨f47, _, PySem.W.mg_of X G a47, k47, b47, ok_draw F47 B⟩
  have D48 : Dn l.prog w K mg base 2 "_law_pick" ["_law_tape", "_law_items"] (spPick K) := ⟨f48, _, PySem.W.mg_of X G a48, k48, b48, ok_pick F48 B D47⟩
  have D49 : Dn l.prog w K mg base 229 "_law_told" ["_law_text"] spTold := ⟨f49, _, PySem.W.mg_of X G a49, k49, b49, ok_told F49 ER DQ⟩
  have D50 : Dn l.prog w K mg base 2 "_law_shells" ["_law_tape", "_law_many"] spShells := ⟨f50, _, PySem.W.mg_of X G a50, k50, b50, ok_shells F50 B D47⟩
  exact law_body15 hS B ⟨D46, D47, D48, D49, D50⟩ hr hg
end Ask
open PySem PySem.W PyProof.Rows
set_option maxRecDepth 100000 in
set_option maxHeartbeats 0 in
theorem PySem.Challenge.cw_innerasks_k15_how_deep_texts_go_holds : PySem.Challenge.rw_innerasks_k15_how_deep_texts_go.Holds := by
  w_on; o_law; k_head; (case hw => w_witness2)
  k_fill
  refine Ask.walk_g (l := PySem.Challenge.rw_innerasks_k15_how_deep_texts_go) (n := 63) (k := 230) (x := "_law_script") (qual := "law") (st := Ask.sLaw) (N := Ask.n_law) rfl (by decide) rfl ⟨rfl, by decide, by decide⟩ (fun w h Y => PySem.W.kIn_of Y) Ask.sc_law ?F
  case F =>
    intro w mg fa h KX G hmg
    refine' Ask.all_mk KX G hmg ?a1 ?l1 ?c1 ?k1 ?a2 ?l2 ?c2 ?k2 ?a3 ?l3 ?c3 ?k3 ?a4 ?l4 ?c4 ?k4 ?a5 ?l5 ?c5 ?k5 ?a6 ?l6 ?c6 ?k6 ?a7 ?l7 ?c7 ?k7 ?a8 ?l8 ?c8 ?k8 ?a9 ?l9 ?c9 ?k9 ?a10 ?l10 ?c10 ?k10 ?a11 ?l11 ?c11 ?k11 ?a12 ?l12 ?c12 ?k12 ?a13 ?l13 ?c13 ?k13 ?a14 ?l14 ?c14 ?k14 ?a15 ?l15 ?c15 ?k15 ?a16 ?l16 ?c16 ?k16 ?a17 ?l17 ?c17 ?k17 ?a18 ?l18 ?c18 ?k18 ?a19 ?l19 ?c19 ?k19 ?a20 ?l20 ?c20 ?k20 ?a21 ?l21 ?c21 ?k21 ?a22 ?l22 ?c22 ?k22 ?a23 ?l23 ?c23 ?k23 ?a24 ?l24 ?c24 ?k24 ?a25 ?l25 ?c25 ?k25 ?a26 ?l26 ?c26 ?k26 ?a27 ?l27 ?c27 ?k27 ?a28 ?l28 ?c28 ?k28 ?a29 ?l29 ?c29 ?k29 ?a30 ?l30 ?c30 ?k30 ?a31 ?l31 ?c31 ?k31 ?a32 ?l32 ?c32 ?k32 ?a33 ?l33 ?c33 ?k33 ?a34 ?l34 ?c34 ?k34 ?a35 ?l35 ?c35 ?k35 ?a36 ?l36 ?c36 ?k36 ?a37 ?l37 ?c37 ?k37 ?a38 ?l38 ?c38 ?k38 ?a39 ?l39 ?c39 ?k39 ?a40 ?l40 ?c40 ?k40 ?a41 ?l41 ?c41 ?k41 ?a42 ?l42 ?c42 ?k42 ?a43 ?l43 ?c43 ?k43 ?a44 ?l44 ?c44 ?k44 ?a45 ?l45 ?c45 ?k45 ?a46 ?l46 ?c46 ?k46 ?a47 ?l47 ?c47 ?k47 ?a48 ?l48 ?c48 ?k48 ?a49 ?l49 ?c49 ?k49 ?a50 ?l50 ?c50 ?k50 ?a51 ?l51 ?c51 ?k51 ?z0 ?z1 ?z2 ?z3 ?z4 ?z5 ?z6 ?z7 ?z8 ?z9 ?z10 ?z11 ?z12 ?z13 ?z14 ?z15 ?z16 ?z17 ?z18 ?m0 ?m1 ?m2 ?m3 ?m4 ?m5 ?m6 ?m7 ?m8 ?m9 ?m10 ?m11 ?w1 ?x1 ?v1 ?y1 ?w2 ?x2 ?v2 ?y2 ?w3 ?x3 ?v3 ?y3 ?gCN ?gCC ?h_nq ?l_nq ?c_nq ?k_nq ?t_nq ?h_cI ?l_cI ?c_cI ?k_cI ?t_cI ?h_cf ?l_cf ?c_cf ?k_cf ?t_cf ?h_ch ?l_ch ?c_ch ?k_ch ?t_ch ?h_cs ?l_cs ?c_cs ?k_cs ?t_cs ?h_ct ?l_ct ?c_ct ?k_ct ?t_ct ?h_cp ?l_cp ?c_cp ?k_cp ?t_cp ?h_ce ?l_ce ?c_ce ?k_ce ?t_ce ?h_ck ?l_ck ?c_ck ?k_ck ?t_ck ?h_cz ?l_cz ?c_cz ?k_cz ?t_cz ?no ?gf ?tk ?eN ?xN ?oC ?nC ?mkC ?fC
    (case a1 => k_is)
    (case l1 => k_is)
    (case c1 => k_is)
    (case k1 => k_is)
    (case a2 => k_is)
    (case l2 => k_is)
    (case c2 => k_is)
    (case k2 => k_is)
    (case a3 => k_is)
    (case l3 => k_is)
    (case c3 => k_is)
    (case k3 => k_is)
    (case a4 => k_is)
    (case l4 => k_is)
    (case c4 => k_is)
    (case k4 => k_is)
    (case a5 => k_is)
    (case l5 => k_is)
    (case c5 => k_is)
    (case k5 => k_is)
    (case a6 => k_is)
    (case l6 => k_is)
    (case c6 => k_is)
    (case k6 => k_is)
    (case a7 => k_is)
    (case l7 => k_is)
    (case c7 => k_is)
    (case k7 => k_is)
    (case a8 => k_is)
    (case l8 => k_is)
    (case c8 => k_is)
    (case k8 => k_is)
    (case a9 => k_is)
    (case l9 => k_is)
    (case c9 => k_is)
    (case k9 => k_is)
    (case a10 => k_is)
    (case l10 => k_is)
    (case c10 => k_is)
    (case k10 => k_is)
    (case a11 => k_is)
    (case l11 => k_is)
    (case c11 => k_is)
    (case k11 => k_is)
    (case a12 => k_is)
    (case l12 => k_is)
    (case c12 => k_is)
    (case k12 => k_is)
    (case a13 => k_is)
    (case l13 => k_is)
    (case c13 => k_is)
    (case k13 => k_is)
    (case a14 => k_is)
    (case l14 => k_is)
    (case c14 => k_is)
    (case k14 => k_is)
    (case a15 => k_is)
    (case l15 => k_is)
    (case c15 => k_is)
    (case k15 => k_is)
    (case a16 => k_is)
    (case l16 => k_is)
    (case c16 => k_is)
    (case k16 => k_is)
    (case a17 => k_is)
    (case l17 => k_is)
    (case c17 => k_is)
    (case k17 => k_is)
    (case a18 => k_is)
    (case l18 => k_is)
    (case c18 => k_is)
    (case k18 => k_is)
    (case a19 => k_is)
    (case l19 => k_is)
    (case c19 => k_is)
    (case k19 => k_is)
    (case a20 => k_is)
    (case l20 => k_is)
    (case c20 => k_is)
    (case k20 => k_is)
    (case a21 => k_is)
    (case l21 => k_is)
    (case c21 => k_is)
    (case k21 => k_is)
    (case a22 => k_is)
    (case l22 => k_is)
    (case c22 => k_is)
    (case k22 => k_is)
    (case a23 => k_is)
    (case l23 => k_is)
    (case c23 => k_is)
    (case k23 => k_is)
    (case a24 => k_is)
    (case l24 => k_is)
    (case c24 => k_is)
    (case k24 => k_is)
    (case a25 => k_is)
    (case l25 => k_is)
    (case c25 => k_is)
    (case k25 => k_is)
    (case a26 => k_is)
    (case l26 => k_is)
    (case c26 => k_is)
    (case k26 => k_is)
    (case a27 => k_is)
    (case l27 => k_is)
    (case c27 => k_is)
    (case k27 => k_is)
    (case a28 => k_is)
    (case l28 => k_is)
    (case c28 => k_is)
    (case k28 => k_is)
    (case a29 => k_is)
    (case l29 => k_is)
    (case c29 => k_is)
    (case k29 => k_is)
    (case a30 => k_is)
    (case l30 => k_is)
    (case c30 => k_is)
    (case k30 => k_is)
    (case a31 => k_is)
    (case l31 => k_is)
    (case c31 => k_is)
    (case k31 => k_is)
    (case a32 => k_is)
    (case l32 => k_is)
    (case c32 => k_is)
    (case k32 => k_is)
    (case a33 => k_is)
    (case l33 => k_is)
    (case c33 => k_is)
    (case k33 => k_is)
    (case a34 => k_is)
    (case l34 => k_is)
    (case c34 => k_is)
    (case k34 => k_is)
    (case a35 => k_is)
    (case l35 => k_is)
    (case c35 => k_is)
    (case k35 => k_is)
    (case a36 => k_is)
    (case l36 => k_is)
    (case c36 => k_is)
    (case k36 => k_is)
    (case a37 => k_is)
    (case l37 => k_is)
    (case c37 => k_is)
    (case k37 => k_is)
    (case a38 => k_is)
    (case l38 => k_is)
    (case c38 => k_is)
    (case k38 => k_is)
    (case a39 => k_is)
    (case l39 => k_is)
    (case c39 => k_is)
    (case k39 => k_is)
    (case a40 => k_is)
    (case l40 => k_is)
    (case c40 => k_is)
    (case k40 => k_is)
    (case a41 => k_is)
    (case l41 => k_is)
    (case c41 => k_is)
    (case k41 => k_is)
    (case a42 => k_is)
    (case l42 => k_is)
    (case c42 => k_is)
    (case k42 => k_is)
    (case a43 => k_is)
    (case l43 => k_is)
    (case c43 => k_is)
    (case k43 => k_is)
    (case a44 => k_is)
    (case l44 => k_is)
    (case c44 => k_is)
    (case k44 => k_is)
    (case a45 => k_is)
    (case l45 => k_is)
    (case c45 => k_is)
    (case k45 => k_is)
    (case a46 => k_is)
    (case l46 => k_is)
    (case c46 => k_is)
    (case k46 => k_is)
    (case a47 => k_is)
    (case l47 => k_is)
    (case c47 => k_is)
    (case k47 => k_is)
    (case a48 => k_is)
    (case l48 => k_is)
    (case c48 => k_is)
    (case k48 => k_is)
    (case a49 => k_is)
    (case l49 => k_is)
    (case c49 => k_is)
    (case k49 => k_is)
    (case a50 => k_is)
    (case l50 => k_is)
    (case c50 => k_is)
    (case k50 => k_is)
    (case a51 => k_is)
    (case l51 => k_is)
    (case c51 => k_is)
    (case k51 => k_is)
    (case z0 => k_is)
    (case z1 => k_is)
    (case z2 => k_is)
    (case z3 => k_is)
    (case z4 => k_is)
    (case z5 => k_is)
    (case z6 => k_is)
    (case z7 => k_is)
    (case z8 => k_is)
    (case z9 => k_is)
    (case z10 => k_is)
    (case z11 => k_is)
    (case z12 => k_is)
    (case z13 => k_is)
    (case z14 => k_is)
    (case z15 => k_is)
    (case z16 => k_is)
    (case z17 => k_is)
    (case z18 => k_is)
    (case m0 => k_is)
    (case m1 => k_is)
    (case m2 => k_is)
    (case m3 => k_is)
    (case m4 => k_is)
    (case m5 => k_is)
    (case m6 => k_is)
    (case m7 => k_is)
    (case m8 => k_is)
    (case m9 => k_is)
    (case m10 => k_is)
    (case m11 => k_is)
    (case w1 => k_is)
    (case x1 => k_is)
    (case v1 => (repeat first | exact .nil | refine .cons ⟨_, rfl⟩ ?_))
    (case y1 => decide)
    (case w2 => k_is)
    (case x2 => k_is)
    (case v2 => (repeat first | exact .nil | refine .cons ⟨_, rfl⟩ ?_))
    (case y2 => decide)
    (case w3 => k_is)
    (case x3 => k_is)
    (case v3 => (repeat first | exact .nil | refine .cons ⟨_, rfl⟩ ?_))
    (case y3 => decide)
    (case gCN => k_is)
    (case gCC => k_is)
    (case h_nq => k_is)
    (case l_nq => k_is)
    (case c_nq => k_is)
    (case k_nq => k_is)
    (case t_nq => k_is)
    (case h_cI => k_is)
    (case l_cI => k_is)
    (case c_cI => k_is)
    (case k_cI => k_is)
    (case t_cI => k_is)
    (case h_cf => k_is)
    (case l_cf => k_is)
    (case c_cf => k_is)
    (case k_cf => k_is)
    (case t_cf => k_is)
    (case h_ch => k_is)
    (case l_ch => k_is)
    (case c_ch => k_is)
    (case k_ch => k_is)
    (case t_ch => k_is)
    (case h_cs => k_is)
    (case l_cs => k_is)
    (case c_cs => k_is)
    (case k_cs => k_is)
    (case t_cs => k_is)
    (case h_ct => k_is)
    (case l_ct => k_is)
    (case c_ct => k_is)
    (case k_ct => k_is)
    (case t_ct => k_is)
    (case h_cp => k_is)
    (case l_cp => k_is)
    (case c_cp => k_is)
    (case k_cp => k_is)
    (case t_cp => k_is)
    (case h_ce => k_is)
    (case l_ce => k_is)
    (case c_ce => k_is)
    (case k_ce => k_is)
    (case t_ce => k_is)
    (case h_ck => k_is)
    (case l_ck => k_is)
    (case c_ck => k_is)
    (case k_ck => k_is)
    (case t_ck => k_is)
    (case h_cz => k_is)
    (case l_cz => k_is)
    (case c_cz => k_is)
    (case k_cz => k_is)
    (case t_cz => k_is)
    (case no => k_is)
    (case gf => k_is)
    (case tk => k_is)
    (case eN => kernel_rfl)
    (case xN => kernel_rfl)
    (case oC => kernel_rfl)
    (case nC => kernel_rfl)
    (case mkC => kernel_rfl)
    (case fC => kernel_rfl)
