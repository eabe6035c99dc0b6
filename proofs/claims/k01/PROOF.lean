import PyProof.Rows.All
import Wide.All
import OpenK.AllK
import Wide.FinOn
import HandS.ForMost
import HandS.ExcInit
import HandS.ExcIs
import HandS.Nested
import KE.KExcInit
import PyProof.ExcBaseAll.LookupError
import PyProof.ExcBaseAll.ArithmeticError
import PyProof.ExcBaseAll.RuntimeError
import PyProof.ExcBaseAll.ValueError
import HandS.ExcField
import KE.KExcIs
import HandS.ExcValue
import PyProof.ReprRoads
import HandS.EndTab
import HandS.Flow
import HandS.Small
import HandS.IsInst
import HandS.RaiseMore
import HandS.Walk
import HandS.FStr
import HandS.Style
import HandS.Codes
import HandS.Star
import HandS.Wide
import HandS.TupLe
import PySem.Challenge.RW_innerasks_k01_errors
import KE.KStateDown
import HandS.Head0
import HandS.Head1
import HandS.Head2
set_option Elab.async false
set_option linter.all false
set_option maxRecDepth 100000
set_option maxHeartbeats 4000000
namespace PySem
namespace AskX
open Builtin Builtin.ObjectAttr
/-- what the mro behind an own error class must say; B makes its instances -/
structure Tail (T : List Value) (B newId : String) : Prop where
  made : ∃ initId bmB, ExcBaseFacts B newId initId bmB
  has : T.contains (.type B) = true
  noA : T.contains (.type "AttributeError") = false
  noN : T.contains (.type "NameError") = false
  obj : T.contains (.type "object") = true
  pass : ∀ self : Value, refuseLoop self "__setattr__" T = pure ()
theorem tail_V : Tail [.type "ValueError", .type "Exception", .type "BaseException", .type "object"] "ValueError" "ValueError.__new__" :=
  ⟨⟨_, _, F.excBase_ValueError⟩, by decide +kernel, by decide +kernel, by decide +kernel, by decide +kernel, fun self => by kernel_rfl⟩
theorem tail_L : Tail [.type "LookupError", .type "Exception", .type "BaseException", .type "object"] "LookupError" "LookupError.__new__" :=
  ⟨⟨_, _, F.excBase_LookupError⟩, by decide +kernel, by decide +kernel, by decide +kernel, by decide +kernel, fun self => by kernel_rfl⟩
theorem tail_K : Tail [.type "KeyError", .type "LookupError", .type "Exception", .type "BaseException", .type "object"] "LookupError" "LookupError.__new__" :=
  ⟨⟨_, _, F.excBase_LookupError⟩, by decide +kernel, by decide +kernel, by decide +kernel, by decide +kernel, fun self => by kernel_rfl⟩
theorem tail_A : Tail [.type "ArithmeticError", .type "Exception", .type "BaseException", .type "object"] "ArithmeticError" "ArithmeticError.__new__" :=
  ⟨⟨_, _, F.excBase_ArithmeticError⟩, by decide +kernel, by decide +kernel, by decide +kernel, by decide +kernel, fun self => by kernel_rfl⟩
theorem tail_R : Tail [.type "RuntimeError", .type "Exception", .type "BaseException", .type "object"] "RuntimeError" "RuntimeError.__new__" :=
  ⟨⟨_, _, F.excBase_RuntimeError⟩, by decide +kernel, by decide +kernel, by decide +kernel, by decide +kernel, fun self => by kernel_rfl⟩
section
variable {M : Model} {A : Around} {E : Value → Shared → Prop} {hp : Heap} {gs : Array GenState} {dr : Drawn} {tk : Nat} {os : OsState}
variable {nm q : Str} {C N : Addr} {bs T bmB : List Value} {hdct : Bool} {sn : List Str} {sub : List Value} {ab : Bool} {col : Option Bool} {dd : Option Addr} {k0 k1 k2 k3 k5 : Option Value} {B newId initId : String}
/-- __new__ is asked rightly -/
theorem tl_check (F : ExcBaseFacts B newId initId bmB) (hB : T.contains (.type B) = true) {more : List Value} {Q : Unit → Shared → Prop} (hC : hp.get? C = some (excClassObj nm q C N bs T hdct sn sub ab col dd k0 k1 k2 k3 k5 newId)) (done : Q () ⟨hp, gs, dr, tk, os⟩) :
    wpAny M A (checkBuiltinCall newId ⟨.ref C :: more, []⟩) Q E ⟨hp, gs, dr, tk, os⟩ := by
  have inB : (Value.ref C :: T).contains (.type B) = true := by
    rw [List.contains_cons, hB]
    exact Bool.or_true _
  have hstar := F.noStar
  simp only [checkBuiltinCall, F.newKind, F.newSplit, F.newRow]
  repeat (first
    | refine wpAny_loadPart_at hC ?_
    | (refine wpAny_isSubtype_exc hC ?_; rw [inB])
    | refine wpAny_staticBase_exc hC ?_
    | refine wpAny_madeBy_exc hC ?_
    | simp only [bne_self_eq_false, Bool.false_eq_true, if_false]
    | wp_step)
  exact done
end
section
variable {prog : Program} {w : World} {A : Around} {E : Value → Shared → Prop} {R : Result → Shared → Prop} {hp : Heap} {gs : Array GenState} {dr : Drawn} {tk : Nat} {os : OsState}
variable {nm q : Str} {C N : Addr} {bs T : List Value} {hdct : Bool} {sn : List Str} {sub : List Value} {ab : Bool} {col : Option Bool} {dd : Option Addr} {k0 k1 k2 k3 k5 : Option Value} {B newId : String}
theorem tl_new {bmB : List Value} {initId : String} (F : ExcBaseFacts B newId initId bmB) (L : Tail T B newId) {more : List Value} (hC : hp.get? C = some (excClassObj nm q C N bs T hdct sn sub ab col dd k0 k1 k2 k3 k5 newId)) (hz : more.length ≤ sizeLine)
    (done : R (.ok (.ret (.ref (hp.objs.size + 1)))) ⟨(hp.push (W.kdv_tup more)).push (HandSPX.excO C hp.objs.size), gs, dr, tk, os⟩) : codeAny (model prog w) A (.builtin newId ⟨.ref C :: more, []⟩) R ⟨hp, gs, dr, tk, os⟩ := by
  have hends := F.ends
  have inB : (Value.ref C :: T).contains (.type B) = true := by rw [List.contains_cons, L.has]; exact Bool.or_true _
  have inA : (Value.ref C :: T).contains (.type "AttributeError") = false := by rw [List.contains_cons, L.noA]; rfl
  have inN : (Value.ref C :: T).contains (.type "NameError") = false := by rw [List.contains_cons, L.noN]; rfl
  refine codeAny_builtinAt F.entry ?_
  unfold Builtin.«BaseException.__new__»
  refine wpAt_bind ?_
  show wpAt _ _ _ (stack >>= _) _ _ _
  refine wpAt_bind (wpAt_stack fun p below => wpAt_of_wpAny ?_)
  wp_walk
  refine wpAt_of_wpAny ?_
  rw [F.owner]
  repeat (first
    | with_reducible refine wpAny_madeHere_exc F.canon hC ?_
    | with_reducible refine wpAny_loadPart_at hC ?_
    | (with_reducible refine wpAny_isSubtype_exc hC ?_
       first | rw [inB] | rw [inA] | rw [inN])
    | wp_step)
  show R _ _
  rw [Heap.size_push]
  exact done
theorem tl_type_call (L : Tail T B newId) {more : List Value} {fI : Addr} {Q : Fin → Shared → Prop} (hC : hp.get? C = some (excClassObj nm q C N bs T hdct sn sub ab col dd k0 k1 k2 k3 k5 newId))
    (hi : W.Looks (model prog w) hp (typeLookup (.ref C) "__init__") (some (.ref fI))) (hb : ∀ self, W.Looks (model prog w) hp (bindSpecial (.ref fI) self) (.ref fI, [self])) (hz : more.length ≤ sizeLine)
    (done : codeAny (model prog w) A (.call (.ref fI) ⟨.ref (hp.objs.size + 1) :: more, []⟩) (fun r s' => match r with | .ok (.ret v) => v = .none ∧ Q (.done (.ret (.ref (hp.objs.size + 1)))) s' | .ok _ => False | .error e => E e s')
      ⟨(hp.push (W.kdv_tup more)).push (HandSPX.excO C hp.objs.size), gs, dr, tk, os⟩) : wpAny (model prog w) A (Builtin.«type.__call__» ⟨.ref C :: more, []⟩) Q E ⟨hp, gs, dr, tk, os⟩ := by
  obtain ⟨initId, bmB, F⟩ := L.made
  repeat (first
    | with_reducible refine wpAny_loadPart_at hC ?_
    | with_reducible refine wpAny_madeBy_exc hC ?_
    | wp_step)
  refine codeAny_call_builtin_code (Code.quiet_builtin _ F.quiet) (tl_check F L.has hC (tl_new F L hC hz ?_))
  show wpAny _ _ _ _ _ _
  have kp : ∀ b o, hp.get? b = some o → ((hp.push (W.kdv_tup more)).push (HandSPX.excO C hp.objs.size)).get? b = some o := fun b o e => Heap.get?_push_of_some _ (Heap.get?_push_of_some _ e)
  have hC2 := kp _ _ hC
  have hobj : ((hp.push (W.kdv_tup more)).push (HandSPX.excO C hp.objs.size)).get? (hp.objs.size + 1) = some (HandSPX.excO C hp.objs.size) := by heap_get
  have inC : (Value.ref C :: T).contains (.ref C) = true := by simp
  have i1 := hi.keeps kp
  have b1 := (hb (.ref (hp.objs.size + 1))).keeps kp
  unfold isInstance
  repeat (first
    | with_reducible refine wpAny_loadPart_at hobj ?_
    | (with_reducible refine wpAny_isSubtype_exc hC2 ?_
       rw [inC])
    | wp_step)
  show wpAny _ _ (typeLookup (.ref C) _) _ _ _
  refine i1.at (wpAny_holding (wpAny_bind (b1.at (wpAny_bind (wpAny_call (codeAny_mono done fun r s' z => ?_))))))
  rcases r with er | (u | _ | _ | _) <;> first
    | exact z
    | exact z.elim
    | skip
  obtain ⟨rfl, z⟩ := z
  first
    | exact wpAny_pure (wpAny_pure z)
    | (wp_walk; exact z)
theorem tl_call (L : Tail T B newId) {more : List Value} {fI : Addr} (hC : hp.get? C = some (excClassObj nm q C N bs T hdct sn sub ab col dd k0 k1 k2 k3 k5 newId))
    (hi : W.Looks (model prog w) hp (typeLookup (.ref C) "__init__") (some (.ref fI))) (hb : ∀ self, W.Looks (model prog w) hp (bindSpecial (.ref fI) self) (.ref fI, [self])) (hz : more.length ≤ sizeLine)
    (done : codeAny (model prog w) (A.under (.builtin "type.__call__" ⟨.ref C :: more, []⟩)) (.call (.ref fI) ⟨.ref (hp.objs.size + 1) :: more, []⟩) (W.InitBack (hp.objs.size + 1) R)
      ⟨(hp.push (W.kdv_tup more)).push (HandSPX.excO C hp.objs.size), gs, dr, tk, os⟩) : codeAny (model prog w) A (.call (.ref C) ⟨more, []⟩) R ⟨hp, gs, dr, tk, os⟩ := by
  have f1 := tc_lookup
  have f2 := tc_bind (.ref C)
  have hTy : (⟨hp, gs, dr, tk, os⟩ : Shared).TypeIs (.ref C) "type" := ⟨_, hC, rfl⟩
  refine codeAny_of_tree ?_
  show wpAny _ _ (callAny (.ref C) _) _ _ _
  repeat (any_goals (first
    | assumption
    | with_reducible refine wpAny_loadPart_at hC ?_
    | wp_step))
  refine ⟨rfl, codeAny_call_builtin_at (Code.quiet_builtin _ (by decide +kernel)) entry_typeCall (wpAny_check_type_call_sub hC (tl_type_call L hC hi hb hz (codeAny_mono done fun r s' z => ?_)))⟩
  rcases r with e | (v | _ | _ | _) <;> exact z
end
end AskX
end PySem
namespace PySem
namespace AskX
open PySem.W PySem.Calls PyProof.Rows PySem.HandSPX
open Builtin Builtin.ObjectAttr
section
variable {prog : Program} {w : World} {A : Around} {R : Result → Shared → Prop} {hp : Heap} {gs : Array GenState} {dr : Drawn} {tk0 : Nat} {os : OsState}
/-- what the class says, its mro as one's own class and the tail -/
structure MroOk (cd : ClassData) : Prop where
  ne : cd.mro.isEmpty = false
  obj : cd.mro.contains (.type "object") = true
  pass : ∀ self : Value, refuseLoop self "__setattr__" cd.mro = pure ()
theorem MroOk.of {cd : ClassData} {C : Addr} {T : List Value} {B newId : String} (L : Tail T B newId) (e : cd.mro = .ref C :: T) : MroOk cd := by
  refine ⟨by rw [e]; rfl, ?_, fun self => ?_⟩
  · rw [e, List.contains_cons, L.obj]
    exact Bool.or_true _
  · rw [e, refuseLoop_ref]
    exact L.pass self
/-- self.name = v: the first field -/
theorem tl_set_new {K : W.Frag} {name : Str} {tk : Tok} {v : Value} {x C : Addr} {fv : Array Value} {cd : ClassData} (X : K.In hp) (hx : hp.get? x = some { cls := .ref C, data := .fields fv }) (hcd : W.clsIn K C = some cd) (hm : MroOk cd) (hh : cd.hasDict = true)
    (ha : W.findIn K (.ref C) name = some none)
    (done : ∀ h' tk' dx, (∀ b o, b ≠ x → hp.get? b = some o → h'.get? b = some o) → hp.objs.size ≤ dx → dx ≠ x → h'.get? x = some { cls := .ref C, dict := some dx, data := .fields fv } →
      h'.Ns1 dx (fun y => if y = name then some v else none) → R (.ok (.ret .none)) ⟨h', gs, dr, tk', os⟩) :
    codeAny (model prog w) A (.call (.builtin "object.__setattr__") ⟨[.ref x, .str name tk, v], []⟩) R ⟨hp, gs, dr, tk0, os⟩ := by
  have IA : W.InstAt hp x { cls := .ref C, data := .fields fv } C none := ⟨hx, rfl, rfl, trivial⟩
  have SF := F.store_object
  have nx : x ≠ hp.objs.size := Nat.ne_of_lt (Heap.lt_size hx)
  have isO : W.Looks (model prog w) hp (isInstance (.ref x) (.type "object")) true := by
    refine IA.type.andThen (W.looks_mroIn X ?_)
    unfold W.mroIn
    rw [hcd, Option.bind_some, if_neg (by rw [hm.ne]; decide), hm.obj]
  refine codeAny_call_builtin SF.slot.plain SF.entry ?_
  refine @W.check_slot (model prog w) _ _ ⟨hp, gs, dr, tk0, os⟩ "object.__setattr__" "object" "__setattr__" (.ref x) [.str name tk, v] [] _ SF.kind SF.split isO (SF.args _ _ _) ?_
  have lm : W.Looks (model prog w) hp (mroOf (.ref C)) cd.mro := (W.looks_clsIn X hcd).andThen .now
  have lt : W.Looks (model prog w) hp (storeTaker? none) none := .now
  have lc : W.Looks (model prog w) hp (classData C) cd := W.looks_clsIn X hcd
  rw [W.osa_eq, refuse_eq]
  refine wpAny_bind (wpAny_bind (IA.type.at (wpAny_bind (lm.at ?_))))
  rw [hm.pass]
  refine wpAny_pure (wpAny_bind (IA.type.at (wpAny_bind ?_)))
  refine (W.looks_findIn X ha).at (wpAny_bind (lt.at ?_))
  show wpAny _ _ (storeInOwnDict (.ref x) (.ref C) (.str name tk) name v false) _ _ _
  obtain ⟨c1, c2, c3, c4, c5, c6, c7, c8, c9, c10, c11⟩ := cd
  dsimp only at hh
  subst hh
  unfold storeInOwnDict ownDictForStores
  repeat (first
    | with_reducible refine HandSPX.store_in_new ?_ ?_
    | with_reducible refine wpAny_loadPart_at hx ?_
    | with_reducible refine lc.at ?_
    | wp_step)
  · exact ⟨_, #[], _, (Heap.get?_update_ne _ _ _ _ nx.symm).trans (Heap.get?_push_at rfl rfl), rfl, fun e he => absurd he (by simp), fun _ => rfl⟩
  · intro h' tk' hn' hs
    have hx1 : (hp.push { cls := .type "dict", data := .dict #[] }).get? x = some { cls := .ref C, data := .fields fv } := Heap.get?_push_of_some _ hx
    refine done h' tk' hp.objs.size (fun b o hb ho => ?_) (Nat.le_refl _) nx.symm ?_ hn'
    · have n2 : b ≠ hp.objs.size := Nat.ne_of_lt (Heap.lt_size ho)
      exact (hs.2 b n2).trans ((Heap.get?_update_ne _ _ _ _ hb).trans (Heap.get?_push_of_some _ ho))
    · exact (hs.2 x nx).trans (Heap.get?_update_self _ hx1 rfl)
/-- self.name = v: a later field -/
theorem tl_set_old {K : W.Frag} {name : Str} {tk : Tok} {v : Value} {x C dx : Addr} {fv : Array Value} {cd : ClassData} {m0 : Str → Option Value} {nl : List Str} (X : K.In hp) (hx : hp.get? x = some { cls := .ref C, dict := some dx, data := .fields fv }) (hns : hp.Ns1 dx m0) (hw : Within m0 nl)
    (hz : nl.length ≤ 1000) (hcd : W.clsIn K C = some cd) (hm : MroOk cd) (hh : cd.hasDict = true) (ha : W.findIn K (.ref C) name = some none)
    (done : ∀ h' tk', (∀ b o, b ≠ dx → hp.get? b = some o → h'.get? b = some o) → h'.Ns1 dx (fun y => if y = name then some v else m0 y) → R (.ok (.ret .none)) ⟨h', gs, dr, tk', os⟩) :
    codeAny (model prog w) A (.call (.builtin "object.__setattr__") ⟨[.ref x, .str name tk, v], []⟩) R ⟨hp, gs, dr, tk0, os⟩ := by
  obtain ⟨oD, _, _, hoD, _, _⟩ := hns.count hw
  have IA : W.InstAt hp x { cls := .ref C, dict := some dx, data := .fields fv } C (some oD) := ⟨hx, rfl, rfl, hoD⟩
  have SF := F.store_object
  have isO : W.Looks (model prog w) hp (isInstance (.ref x) (.type "object")) true := by
    refine IA.type.andThen (W.looks_mroIn X ?_)
    unfold W.mroIn
    rw [hcd, Option.bind_some, if_neg (by rw [hm.ne]; decide), hm.obj]
  refine codeAny_call_builtin SF.slot.plain SF.entry ?_
  refine @W.check_slot (model prog w) _ _ ⟨hp, gs, dr, tk0, os⟩ "object.__setattr__" "object" "__setattr__" (.ref x) [.str name tk, v] [] _ SF.kind SF.split isO (SF.args _ _ _) ?_
  have lm : W.Looks (model prog w) hp (mroOf (.ref C)) cd.mro := (W.looks_clsIn X hcd).andThen .now
  have lt : W.Looks (model prog w) hp (storeTaker? none) none := .now
  have lc : W.Looks (model prog w) hp (classData C) cd := W.looks_clsIn X hcd
  rw [W.osa_eq, refuse_eq]
  refine wpAny_bind (wpAny_bind (IA.type.at (wpAny_bind (lm.at ?_))))
  rw [hm.pass]
  refine wpAny_pure (wpAny_bind (IA.type.at (wpAny_bind ?_)))
  refine (W.looks_findIn X ha).at (wpAny_bind (lt.at ?_))
  show wpAny _ _ (storeInOwnDict (.ref x) (.ref C) (.str name tk) name v false) _ _ _
  obtain ⟨c1, c2, c3, c4, c5, c6, c7, c8, c9, c10, c11⟩ := cd
  dsimp only at hh
  subst hh
  unfold storeInOwnDict ownDictForStores
  repeat (first
    | with_reducible refine OEX.store_in_old hns hw hz ?_
    | with_reducible refine wpAny_loadPart_at hx ?_
    | with_reducible refine lc.at ?_
    | wp_step)
  intro h' tk' hn' hs
  exact done h' tk' (fun b o hb ho => (hs.2 b hb).trans ho) hn'
end
end AskX
end PySem
namespace Ask
open PySem L2 PySem.Spec PyProof.Rows PySem.AskX
/-! ### errors of own classes, kept as values -/
/-- what is told of such a class -/
structure ErC (K : PySem.W.Frag) (C : Addr) (T : List Value) (B newId : String) : Prop where
  cls : ∃ nm q N bs sn sub ab col dd k0 k1 k2 k3 k5, K.lookup C = some (excClassObj nm q C N bs T true sn sub ab col dd k0 k1 k2 k3 k5 newId)
  tl : Tail T B newId
  sa : PySem.W.findIn K (.ref C) "__setattr__" = some (some (.builtin "object.__setattr__"))
  kC : PySem.W.keepIn K (.ref C) = true
structure ErrC (K : PySem.W.Frag) (C : Addr) : Prop where
  ex : ∃ T B newId, ErC K C T B newId
theorem ErC.data {K : PySem.W.Frag} {C : Addr} {T : List Value} {B newId : String} (e : ErC K C T B newId) : ∃ cd, PySem.W.clsIn K C = some cd ∧ MroOk cd ∧ cd.hasDict = true := by
  obtain ⟨nm, q, N, bs, sn, sub, ab, col, dd, k0, k1, k2, k3, k5, hC⟩ := e.cls
  refine ⟨{ name := nm, bases := bs, mro := .ref C :: T, ns := N, qualname := q, hasDict := true, slotNames := sn, subclasses := sub, abstract := ab, collection := col, hasDel := false }, ?_, MroOk.of e.tl rfl, rfl⟩
  unfold PySem.W.clsIn
  rw [hC] <;> rfl
section
variable {X : Cx} {pins : List (Addr × Obj)} {σ : L2.St} {H : Hp} {s : Shared} {a C dx : Addr} {f : Str} {y : V} {u : Value} {fs : List (Str × V)} {Q : Unit → Shared → Prop} {E : Value → Shared → Prop} {A : Around}
theorem er_first (T : ErrC X.K C) (I : L2.Inv X pins σ H s) (e : H a = some (exo a C none)) (hno : PySem.W.findIn X.K (.ref C) f = some none) (ry : RelV y u)
    (done : ∀ dx s', H dx = none → dx ≠ a → L2.Inv X pins σ (L2.upd (L2.upd H dx (exd dx [(f, y)])) a (exo a C (some dx))) s' → Q () s') : wpAny (model X.prog X.w) A (setAttr (.ref a) f u) Q E s := by
  obtain ⟨T, B, newId, T⟩ := T.ex
  obtain ⟨cd, hcl, hm, hdct⟩ := T.data
  obtain ⟨t1, ho⟩ := exo_at I.hok e
  obtain ⟨hp, gs, dr, t, os⟩ := s
  refine PySem.W.set_plain I.kIn (ox := { cls := .ref C, dict := none, data := .fields #[.ref t1, .none, .none, .none, .bool false, .none] }) (od := none) ⟨ho, rfl, rfl, trivial⟩ T.sa ?_
  refine tl_set_new I.kIn ho hcl hm hdct hno (fun h' tk' dx kp dn dne hx hn => ?_)
  have hnd : H dx = none := I.hok.fresh dn
  have old : ∀ {b : Addr} {o : Obj}, hp.get? b = some o → b ≠ dx := fun {b o} q => Nat.ne_of_lt (Nat.lt_of_lt_of_le (Heap.lt_size q) dn)
  have nota : ∀ {b : Addr}, H b = none → b ≠ a := fun {b} n z => by
    rw [z, e] at n
    cases n
  have un : Un X.fs [] H (L2.upd (L2.upd H dx (exd dx [(f, y)])) a (exo a C (some dx))) hp h' := {
    keep := fun b o q n _ _ => kp b o (nota n) q
    slot := fun b o q n _ _ => ⟨o.slots, kp b o (nota n) q⟩
    free := fun b o q n _ => by
      rw [upd_ne (nota n), upd_ne (old q)]
      exact n
    there := fun b o q _ => by
      by_cases hb : b = a
      · subst hb
        exact ⟨_, hx⟩
      · exact ⟨o, kp b o hb q⟩
    tups := fun b xs q => by
      rw [upd_ne (at_ne e q exo_tup), upd_ne (ne_of_none q hnd)]
      exact q
    frzs := fun b o v q => by
      rw [upd_ne (at_ne e q exo_frz), upd_ne (ne_of_none q hnd)]
      exact q
    tbls := fun b ps q => ⟨#[], by
      rw [upd_ne (at_ne e q exo_tbl), upd_ne (ne_of_none q hnd), q]
      simp⟩ }
  refine done dx _ hnd dne (I.un (t' := tk') un fun b o q => ?_)
  by_cases hb : b = a
  · subst hb
    rw [upd_same] at q
    cases q
    exact exo_ok hx
  · rw [upd_ne hb] at q
    by_cases hd : b = dx
    · subst hd
      rw [upd_same] at q
      cases q
      exact exd_ok hn (relO_put (fs := []) ry fun g => True.intro)
    · rw [upd_ne hd] at q
      refine (I.hok b o q).stay (fun c v hc z => kp c v ?_ z) (fun c hc => ?_) fun c xs hc => ?_
      · rcases hc with hc | hc
        · rw [hc]
          exact hb
        · exact at_ne e hc exo_own
      · rw [upd_ne (at_ne e hc exo_own), upd_ne (ne_of_none hc hnd)]
        exact hc
      · rw [upd_ne (at_ne e hc exo_tup), upd_ne (ne_of_none hc hnd)]
        exact hc
theorem er_later (T : ErrC X.K C) (I : L2.Inv X pins σ H s) (e : H a = some (exo a C (some dx))) (ed : H dx = some (exd dx fs)) (hl : fs.length ≤ 900) (hno : PySem.W.findIn X.K (.ref C) f = some none) (ry : RelV y u)
    (done : ∀ s', L2.Inv X pins σ (L2.upd H dx (exd dx ((f, y) :: fs))) s' → Q () s') : wpAny (model X.prog X.w) A (setAttr (.ref a) f u) Q E s := by
  obtain ⟨T, B, newId, T⟩ := T.ex
  obtain ⟨cd, hcl, hm, hdct⟩ := T.data
  obtain ⟨t1, ho⟩ := exo_at I.hok e
  obtain ⟨mA, hns, rel⟩ := exd_at I.hok ed
  have hw := within_of rel
  obtain ⟨hp, gs, dr, t, os⟩ := s
  obtain ⟨oD, _, _, hoD, _, _⟩ := hns.count hw
  refine PySem.W.set_plain I.kIn (ox := { cls := .ref C, dict := some dx, data := .fields #[.ref t1, .none, .none, .none, .bool false, .none] }) (od := some oD) ⟨ho, rfl, rfl, hoD⟩ T.sa ?_
  refine tl_set_old I.kIn ho hns hw (by rw [List.length_map]; omega) hcl hm hdct hno (fun h' tk' kp hn => ?_)
  have hd : ∃ o, h'.get? dx = some o := let ⟨o, _, _, e', _⟩ := hn; ⟨o, e'⟩
  exact done _ (I.write (t' := tk') (x := dx) (e := dx) (o := exd dx ((f, y) :: fs)) (by rw [ed]; exact True.intro) (.inl rfl) kp hd (exd_ok hn (relO_put ry rel)))
end
/-- self.f = e on such an error -/
def tEst (K : PySem.W.Frag) (f : Str) (to te : TE) : TS := fun D σ H => te σ H fun y H1 => to σ H1 fun x H2 => ∃ a C : Addr, x = .ref a ∧ ErrC K C ∧ PySem.W.findIn K (.ref C) f = some none ∧
  ((H2 a = some (exo a C none) ∧ ∀ dx, H2 dx = none → dx ≠ a → D.nx σ (L2.upd (L2.upd H2 dx (exd dx [(f, y)])) a (exo a C (some dx)))) ∨
    ∃ (dx : Addr) (fs : List (Str × V)), H2 a = some (exo a C (some dx)) ∧ H2 dx = some (exd dx fs) ∧ fs.length ≤ 900 ∧ D.nx σ (L2.upd H2 dx (exd dx ((f, y) :: fs))))
section
variable {X : Cx} {o e : Expr} {es : List Expr} {to te : TE} {ta : TA} {f : Str} {p p' pos : Pos}
theorem ps_est (ho : PE X o to) (he : PE X e te) (hs : swapsWith e (some (.Attribute o f p')) pos.line X.env = pure false := by rfl) : PS X (.Assign [.Attribute o f p'] e pos) (tEst X.K f to te) := by
  refine ⟨fun pins s σ H D I h => ?_⟩
  refine plainObj_wpAny_Assign_Attribute (thn (he.run pins s σ H _ I h) fun v s1 ⟨y, H1, I1, r1, q1⟩ => thn (ho.run pins s1 σ H1 _ I1 q1) fun u s2 ⟨x, H2, I2, r2, a, C, ex, T, hno, q⟩ => ?_) hs
  subst ex
  obtain rfl : u = Value.ref a := r2
  rcases q with ⟨ea, q⟩ | ⟨dx, fs, ea, ed, hl, q⟩
  · exact er_first T I2 ea hno r1 fun dx s' n ne J => ⟨σ, _, J, q dx n ne⟩
  · exact er_later T I2 ea ed hl hno r1 fun s' J => ⟨σ, _, J, q⟩
/-- C(e, ..) as a value, C's own __init__ keeping sp -/
def tErr (C : Addr) (sp : Sp) (ta : TA) : TE := fun σ H Q => ta σ H fun vs H1 => vs.length ≤ 1000 ∧ ∀ a, H1 a = none → sp (.ref a :: vs) (L2.upd H1 a (exo a C none)) (fun v H2 => v = .non ∧ Q (.ref a) H2) E0
theorem pe_err {x : Str} {C fI : Addr} {k : Nat} {fd : FuncData} {ps : List Str} {sp : Sp} (T : ErrC X.K C) (iC : PySem.W.findIn X.K (.ref C) "__init__" = some (some (.ref fI))) (tI : PySem.W.typeIn X.K (.ref fI) = some (.type "function"))
    (F1 : FnOk X.prog X.w X.K X.mg X.base CX0 k fI fd ps sp) (hr : Room (k + 1) X.A) (hb : Binds X.K fd ps []) (hg : Gl X x) (hm : X.mg x = some (.ref C)) (ha : PA X (e :: es) ta)
    (hdb : (x == ("__debug__" : Str)) = false := by decide) (he : starEach (e :: es) X.env = (false, eval e X.env) :: starEach es X.env := by rfl) (hpl : (backTo pos (starEach es X.env)).any (·.1) = false := by rfl) :
    PE X (.Call (.Name x p) (e :: es) [] pos) (tErr C sp ta) := by
  refine ⟨fun pins s σ H Q I h => ?_⟩
  obtain ⟨T, B, newId, T⟩ := T.ex
  obtain ⟨nm, q, N, bs, sn, sub, ab, col, dd, k0, k1, k2, k3, k5, hC⟩ := T.cls
  refine wpAny_Call_Name_kw (ld_glob I hg hm ?_ hdb)
  refine PySem.W.callWith_K (h₀ := X.base) I.ok.mod.kin T.kC (thn (ha.run pos pins s σ H _ I h) fun us s1 ⟨vs, H1, I1, r1, hz, q1⟩ => ⟨I1.kIn, ?_⟩) he hpl
  show wpAny _ _ (call (.ref C) us) _ _ _
  obtain ⟨hp, gs, dr, tk, os⟩ := s1
  have hsz : hp.objs.size ≤ hp.objs.size + 1 := Nat.le_succ _
  have hn : H1 (hp.objs.size + 1) = none := I1.hok.fresh hsz
  have hq := q1 (hp.objs.size + 1) hn
  have kp : ∀ b o, hp.get? b = some o → ((hp.push (PySem.W.kdv_tup us)).push (PySem.HandSPX.excO C hp.objs.size)).get? b = some o := fun b o e => Heap.get?_push_of_some _ (Heap.get?_push_of_some _ e)
  have hget : ((hp.push (PySem.W.kdv_tup us)).push (PySem.HandSPX.excO C hp.objs.size)).get? (hp.objs.size + 1) = some (PySem.HandSPX.excO C hp.objs.size) := by heap_get
  have I2 : L2.Inv X pins σ (L2.upd H1 (hp.objs.size + 1) (exo (hp.objs.size + 1) C none)) ⟨(hp.push (PySem.W.kdv_tup us)).push (PySem.HandSPX.excO C hp.objs.size), gs, dr, tk, os⟩ :=
    I1.laid (t' := tk) (a := hp.objs.size + 1) (o := exo (hp.objs.size + 1) C none) (h' := (hp.push (PySem.W.kdv_tup us)).push (PySem.HandSPX.excO C hp.objs.size)) kp hsz (exo_ok hget)
  have r2 : Vals (V.ref (hp.objs.size + 1) :: vs) (Value.ref (hp.objs.size + 1) :: us) := .cons rfl r1
  have hl : (Value.ref (hp.objs.size + 1) :: us).length = ps.length := by
    have e := r2.length
    rw [F1.len _ _ _ _ hq] at e
    exact e.symm
  have hus : us.length ≤ sizeLine := by
    rw [← Paired.length r1, sizeLine_eq]
    omega
  have hbn := hb _ (Value.ref (hp.objs.size + 1) :: us) I2.kIn (by rw [List.append_nil]; exact hl)
  rw [List.append_nil] at hbn
  refine wpAny_call (tl_call T.tl (I1.kIn _ _ hC) (PySem.W.looks_findIn I1.kIn iC) (fun self => PySem.W.bind_fn I1.kIn self tI) hus ?_)
  refine codeAny_mono (F1.run _ X.stack _ _ ⟨Value.ref (hp.objs.size + 1) :: us, []⟩ (Value.ref (hp.objs.size + 1) :: us) _ _ (fun _ _ _ => False) (hr.make C us []) (I2.env0.make C us []) hbn r2 hq) fun r s' hq' => ?_
  cases r with
  | error er => exact pass0 pins σ _ _ er s' I2 hq'
  | ok fl =>
    cases fl with
    | ret u =>
      obtain ⟨v, H2, J, rv, ev, q2⟩ := I2.after hq'
      subst ev
      exact ⟨rv, .ref (hp.objs.size + 1), H2, J, rfl, q2⟩
    | next => exact False.elim hq'
    | brk => exact False.elim hq'
    | cont => exact False.elim hq'
/-- what a class must say so that fields of its errors are read, and isinstance is asked -/
structure ErA (K : PySem.W.Frag) (C : Addr) : Prop where
  xf : XfC K C
  is : ExcC K C
/-- e.f, e such an error -/
theorem pe_ef {C : Addr} {n : Str} (h : PE X e te) (hb : attributeBase e n X.env (eval e X.env) = eval e X.env := by rfl) :
    PE X (.Attribute e n pos) (fun σ H Q => te σ H fun x H1 => ∃ (a C dx : Addr) (fs : List (Str × V)) (v : V), x = .ref a ∧ ErA X.K C ∧ PySem.W.findIn X.K (.ref C) n = some none ∧ H1 a = some (exo a C (some dx)) ∧ H1 dx = some (exd dx fs) ∧ fs.lookup n = some v ∧ Q v H1) := by
  refine ⟨fun pins s σ H Q I hq => ?_⟩
  refine attr_of hb (thn (h.run pins s σ H _ I hq) fun u s1 hh => ?_)
  obtain ⟨x, H1, I1, rx, a, C, dx, fs, v, ex, T, hno, ea, ed, l, q⟩ := hh
  subst ex
  obtain rfl : u = Value.ref a := rx
  obtain ⟨t1, ho⟩ := exo_at I1.hok ea
  obtain ⟨mA, hns, hr⟩ := exd_at I1.hok ed
  obtain ⟨od, hod, hl⟩ := lookIn_ns hns
  obtain ⟨u, hu, ru⟩ := RelO.some_of (v := v) (o := mA n) (by rw [← l]; exact hr n)
  have J : PySem.W.InstAt s1.heap a { cls := .ref C, dict := some dx, data := .fields #[.ref t1, .none, .none, .none, .bool false, .none] } C (some od) := ⟨ho, rfl, rfl, hod⟩
  exact HandSPX.exc_get I1.kIn J T.xf.ga T.xf.gg T.xf.exC (PySem.W.findObj_own T.xf.hdC hno rfl (by rw [hl, hu])) (handed_of ru) ⟨v, H1, I1.tok _, ru, q⟩
/-- isinstance(e, c), e such an error -/
def rIsEr (K : PySem.W.Frag) : List V → Hp → VK → Prop := fun xs H Q => ∃ (a C : Addr) (d : Option Addr) (c : V) (cv : Value) (b : Bool), xs = [.ref a, c] ∧ ErA K C ∧ (∀ u, RelV c u → u = cv) ∧ H a = some (exo a C d) ∧ (∀ dx, d = some dx → ∃ fs, H dx = some (exd dx fs)) ∧ PySem.W.kitOne K (.ref C) cv = some b ∧ Q (.bl b) H
theorem call_isEr : CallR X (.builtin "isinstance") (rIsEr X.K) := by
  intro pins s σ H xs us Q I r h
  obtain ⟨a, C, d, c, cv, b, rfl, T, hcv, ea, hd, e, q⟩ := h
  match us, r with
  | [_, u2], .cons rfl (.cons rt .nil) =>
  obtain rfl : u2 = cv := hcv _ rt
  obtain ⟨t1, ho⟩ := exo_at I.hok ea
  have C' := T.is
  have hcl : (PySem.W.clsIn X.K C).isSome = true := by
    obtain ⟨cd, hc, _⟩ := PySem.W.any_some C'.hd
    rw [hc]
    rfl
  have fin : ∀ {od : Option Obj}, PySem.W.InstAt s.heap a { cls := .ref C, dict := d, data := .fields #[.ref t1, .none, .none, .none, .bool false, .none] } C od → wpAny (model X.prog X.w) X.A (call (.builtin "isinstance") [.ref a, u2]) (EP X pins σ Q) X.xe s := fun {od} J =>
    PySem.W.kia_one (PySem.W.kitx_exc hcl C'.hg C'.hk C'.hs C'.ha C'.hn C'.ht C'.hm) I.kIn J e (fun z => nomatch z) fun tk => ⟨.bl b, H, I.kept (t' := tk) fun _ _ z => z, rfl, q⟩
  cases d with
  | none => exact fin (od := none) ⟨ho, rfl, rfl, trivial⟩
  | some dx =>
    obtain ⟨fs, ed⟩ := hd dx rfl
    obtain ⟨mA, hns, hr⟩ := exd_at I.hok ed
    obtain ⟨od, hod, hl⟩ := lookIn_ns hns
    exact fin (od := some od) ⟨ho, rfl, rfl, hod⟩
end
end Ask
namespace Ask
open PySem L2 PySem.Spec PyProof.Rows LamX NdefX
/-! ### lambdas with parameters, kept as values -/
/-- the words of a lambda without captured names: its context is that of a def with an empty body -/
structure LF where
  qual : Str
  params : Arguments
  body : Expr
  scope : Scope
  c : Addr
abbrev LF.nf (F : LF) : NF := ⟨"<lambda>", F.qual, F.params, [], F.scope, [], F.c⟩
abbrev LF.fd (F : LF) (pm ctv : Value) : FuncData := PySem.W.kla_fn "<lambda>" F.qual F.params F.body F.scope [] pm (.ref F.c) ctv
/-- the object at f is this lambda -/
def LmO (f : Addr) (F : LF) : HO := .ext fun h => ∃ (od : Option Addr) (sl : Array (Option Value)) (pm ctv : Value), h.get? f = some (⟨.type "function", od, .func (F.fd pm ctv), sl⟩ : Obj)
theorem lmO_at {P : Program} {w : World} {H : Hp} {h : Heap} {f : Addr} {F : LF} (hok : HOk P w H h) (e : H f = some (LmO f F)) : ∃ (od : Option Addr) (sl : Array (Option Value)) (pm ctv : Value), h.get? f = some (⟨.type "function", od, .func (F.fd pm ctv), sl⟩ : Obj) := (hok f _ e).1
section
variable {X : Cx} {pins : List (Addr × Obj)} {σ : L2.St} {H : Hp} {s : Shared}
theorem inv_lam {F : LF} {o : Obj} {t' : Nat} {pm ctv : Value} (I : L2.Inv X pins σ H s) (ho : o = { cls := .type "function", data := .func (F.fd pm ctv) }) :
    L2.Inv X pins σ (L2.upd H s.heap.objs.size (LmO s.heap.objs.size F)) { s with heap := s.heap.push o, toks := t' } := by
  subst ho
  have e : (s.heap.push ({ cls := .type "function", data := .func (F.fd pm ctv) } : Obj)).get? s.heap.objs.size = some ({ cls := .type "function", data := .func (F.fd pm ctv) } : Obj) := Heap.get?_push_size _ rfl
  exact I.laid (a := s.heap.objs.size) (fun b u e => Heap.get?_push_of_some _ e) (Nat.le_refl _) ⟨⟨_, _, pm, ctv, e⟩, ⟨_, e⟩, fun h1 h2 ⟨od, sl, p, t, z⟩ st => ⟨od, sl, p, t, st _ z⟩⟩
/-- lambda ..: .., no name captured: a new function object; its code object is new, or stands in the table -/
theorem pe_lambda {T : List (Addr × Str)} {c P : Addr} {params : Arguments} {body : Expr} {scope : Scope} {pos : Pos} (TB : TabB X.base X.mg c P) (hcode : X.env.code = .ref c) (hm : (P, X.env.qual ++ "<lambda>") ∈ T) (hu : ∀ p ∈ T, p.1 = P → p.2 = X.env.qual ++ "<lambda>")
    (hdef : defaultsOf params X.env = ([], []) := by rfl) (hfree : ∀ y ∈ scope.names, y.2 ≠ .free) (hcl : cloFrom X.env.cells scope.names [] = [] := by rfl) :
    PE X (.Lambda params body scope pos) (fun _ H Q => Tabs T H ∧ ∀ (f c' : Addr) (H1 : Hp), ExtN H H1 → (∀ b, H1 b = none → H b = none) → Tabs T H1 → H f = none → H1 f = some (LmO f ⟨X.env.qual ++ "<lambda>", params, body, scope, c'⟩) → H1 c' = some (LamX.CodeO c' (X.env.qual ++ "<lambda>")) → Q (.ref f) H1) := by
  refine ⟨fun pins s σ H Q I q => ?_⟩
  obtain ⟨hT, q⟩ := q
  obtain ⟨ps, hP, ht, ha⟩ := hT _ hm
  refine PySem.W.kla_eval hdef ?_
  have bP : s.heap.BuiltinsAt X.mg P := TB.bm.keeps I.bk
  have hP' : s.heap.get? P = some { cls := .none, data := .fields ps } := I.hok P _ hP
  have clo := closure_ok (env := X.env) (scope := scope) fun y hy e => absurd e (hfree y hy)
  cases hc : codeAmong pos ps.toList with
  | none =>
    refine PySem.W.kla_makeFunction (mg := X.mg) (c := c) (P := P) (ps := ps) clo I.ok.glob (I.mod.glob.keeps I.bk) hcode (TB.code.keeps I.bk) hP' ht hc TB.gP bP fun c' ctv h' tk hx hge hlt hrec htb => ?_
    obtain ⟨c2, oc, vs, t, e2, hoc, hd, hv⟩ := hrec
    cases e2
    have nC : H c' = none := I.hok.fresh hge
    have I1 := inv_table (t' := tk) (more := #[rawInt pos.line, rawInt pos.col, .ref c']) (h' := h') I hP (fun b o hb e => hx b o hb e) htb hge ⟨oc, vs, t, hoc, hd, hv⟩
    have ext : ExtN H (L2.upd (L2.upd H P (.tbl (ps ++ #[rawInt pos.line, rawInt pos.col, .ref c']))) c' (LamX.CodeO c' (X.env.qual ++ "<lambda>"))) := fun b o e n => by
      rw [upd_ne (ne_of_none e nC), upd_ne (fun z => n ps (Option.some.inj (e.symm.trans (by rw [z]; exact hP))))]
      exact e
    have el : (ps ++ #[rawInt pos.line, rawInt pos.col, .ref c']).toList = ps.toList ++ [rawInt pos.line, rawInt pos.col, .ref c'] := by simp
    have T1 : Tabs T (L2.upd (L2.upd H P (.tbl (ps ++ #[rawInt pos.line, rawInt pos.col, .ref c']))) c' (LamX.CodeO c' (X.env.qual ++ "<lambda>"))) := fun p hp => by
      by_cases hb : p.1 = P
      · rw [hu p hp hb, hb]
        refine ⟨_, by rw [upd_ne (ne_of_none hP nC), upd_same], by rw [el]; exact PySem.TriplesOk_snoc _ _ _ _ ht, fun p' cv hcv => ?_⟩
        rw [el] at hcv
        cases among_app _ ht hcv with
        | inl z =>
          obtain ⟨c0, e1, e2⟩ := ha p' cv z
          exact ⟨c0, e1, ext _ _ e2 codeO_ne⟩
        | inr z => exact ⟨c', z, upd_same⟩
      · obtain ⟨ps', a1, a2, a3⟩ := hT p hp
        refine ⟨ps', by rw [upd_ne (ne_of_none a1 nC), upd_ne hb]; exact a1, a2, fun p' cv hcv => ?_⟩
        obtain ⟨c0, e1, e2⟩ := a3 p' cv hcv
        exact ⟨c0, e1, ext _ _ e2 codeO_ne⟩
    have nF := I1.hok.fresh (Nat.le_refl _)
    have I2 := inv_lam (F := ⟨X.env.qual ++ "<lambda>", params, body, scope, c'⟩) (t' := tk) (pm := (X.mg "__name__").getD .none) (ctv := ctv) I1 rfl
    rw [hcl]
    refine ⟨.ref h'.objs.size, _, I2, rfl, q _ c' _ (fun b o e n => ?_) (fun b e => upd_none (upd_none (upd_none e))) (T1.ext fun b o e => ?_) (I.hok.fresh (Nat.le_trans hge (Nat.le_of_lt hlt))) upd_same ?_⟩
    · have e1 := ext b o e n
      exact (upd_ne (ne_of_none e1 nF)).trans e1
    · exact (upd_ne (ne_of_none e nF)).trans e
    · exact (upd_ne (Nat.ne_of_lt hlt)).trans upd_same
  | some cv =>
    obtain ⟨c', e, hco⟩ := ha pos cv hc
    subst e
    refine PySem.W.kla_makeFunctionHit (mg := X.mg) (c := c) (P := P) (ps := ps) clo I.ok.glob (I.mod.glob.keeps I.bk) hcode (TB.code.keeps I.bk) hP' ht hc bP fun ctv h' tk hx hsz => ?_
    have I1 : L2.Inv X pins σ H { s with heap := h', toks := tk } := I.kept hx
    have nF : H h'.objs.size = none := I1.hok.fresh (Nat.le_refl _)
    have I2 := inv_lam (F := ⟨X.env.qual ++ "<lambda>", params, body, scope, c'⟩) (t' := tk) (pm := (X.mg "__name__").getD .none) (ctv := ctv) I1 rfl
    rw [hcl]
    refine ⟨.ref h'.objs.size, _, I2, rfl, q _ c' _ (fun b o e n => ?_) (fun b e => upd_none e) (hT.ext fun b o e => ?_) nF upd_same ?_⟩
    · exact (upd_ne (ne_of_none e nF)).trans e
    · exact (upd_ne (ne_of_none e nF)).trans e
    · exact (upd_ne (ne_of_none hco nF)).trans hco
end
/-! ### such a lambda, called -/
structure LOk (P : Program) (w : World) (K : PySem.W.Frag) (mg : Str → Option Value) (base : Heap) (k : Nat) (f : Addr) (F : LF) (ps : List Str) (sp : Sp) : Prop where
  len : ∀ vs H Q E, sp vs H Q E → vs.length = ps.length
  run : ∀ (A : Around) (outer : List Env) (s : Shared) (H : Hp) (us : List Value) (vs : List V) (Q : VK), Room k A → Env0 P w K mg base A outer s H → H f = some (LmO f F) → H F.c = some (LamX.CodeO F.c F.qual) → Vals vs us → sp vs H Q E0 →
    codeAny (model P w) A (.call (.ref f) ⟨us, []⟩) (CR CX0 outer P w H s Q E0) s
theorem lok_of {P : Program} {w : World} {K : PySem.W.Frag} {mg : Str → Option Value} {base : Heap} {N ps : List Str} {F : LF} {f : Addr} {k : Nat} {sp : Sp} (S : NScope N ps [] F.scope)
    (hb : ∀ (pm ctv : Value) (us : List Value), us.length = ps.length → bindArgs (F.fd pm ctv) ⟨us, []⟩ = pure (ps.zip us)) (len : ∀ vs H Q E, sp vs H Q E → vs.length = ps.length)
    (hbody : ∀ (A : Around) (outer : List Env) (s : Shared) (H : Hp) (vs : List V) (Q : VK), Room k (A.deeper (envF F.nf f s.heap.objs.size)) → sp vs H Q E0 →
      ∃ t, PE (ncx CX0 P w K mg base N F.nf f A outer s H E0) F.body t ∧ t (startF N vs []) H Q) : LOk P w K mg base (k + 1) f F ps sp := by
  refine ⟨len, fun A outer s H us vs Q hr e0 hf hc r hsp => ?_⟩
  have hl := len _ _ _ _ hsp
  have lim : s.heap.NoLimit := e0.mod.nolimit.keeps fun b o e => (e0.bs b o e).1
  obtain ⟨od, sl, pm, ctv, ho⟩ := lmO_at e0.hok hf
  refine PySem.W.kla_callFunE hr.depth ho rfl S.co S.gen rfl (codeO_at e0.hok hc) ?_
  rw [hb pm ctv us (r.length.symm.trans hl)]
  refine wpAny_pure (wpAny_newFunctionEnv S.nocell (fun ⟨n, _⟩ hy => S.par n (List.of_mem_zip hy).1) (fun h₁ hns hsb => ⟨lim.fresh _ hsb, ?_⟩) S.kind)
  show codeAny _ _ (.expr F.body (envF F.nf f s.heap.objs.size)) _ _
  have kp : ∀ b o, s.heap.get? b = some o → h₁.get? b = some o := fun b o e => hsb.extBut b o (Nat.ne_of_lt (Heap.lt_size e)) (Heap.get?_push_of_some _ e)
  obtain ⟨t, ht, hq⟩ := hbody A outer s H vs Q (hr.deeper _) hsp
  have C : CellsAt F.nf.cl [] [] s.heap H := ⟨rfl, fun y c e => (nomatch e), fun x y c e => (nomatch e), fun i y e => by simp at e⟩
  have I : L2.Inv (ncx CX0 P w K mg base N F.nf f A outer s H E0) [] (startF N vs []) H { s with heap := h₁, toks := s.toks + (ps.zip us).length } := inv_startN S hr.hd e0 hl r C hns kp
  refine PySem.W.kla_codeExpr (wpAny_mono (ht.run [] _ (startF N vs []) H _ I hq) (fun v s' hs => ?_) fun e s' hs => hs)
  obtain ⟨w', H', J, rv, q⟩ := hs
  exact ⟨w', H', J.os, J.bare, J.base, J.hok, rv, q⟩
/-- g(e), g a name that holds some such lambda -/
theorem pe_callLm {X : Cx} {k i : Nat} {x : Str} {t : TA} {e : Expr} {es : List Expr} {p pos : Pos} (hr : Room k X.A) (hN : X.N[i]? = some x) (hv : Vis X.env.scope x) (ha : PA X (e :: es) t) (hd : (x == ("__debug__" : Str)) = false := by decide) (hcd : (x == ("__classdict__" : Str)) = false := by decide)
    (he : starEach (e :: es) X.env = (false, eval e X.env) :: starEach es X.env := by rfl) (hpl : (backTo pos (starEach es X.env)).any (·.1) = false := by rfl) :
    PE X (.Call (.Name x p) (e :: es) [] pos) (fun σ H Q => ∃ (f : Addr) (F : LF) (ps : List Str) (sp : Sp), σ[i]? = some (some (.ref f)) ∧ LOk X.prog X.w X.K X.mg X.base k f F ps sp ∧ H f = some (LmO f F) ∧
      t σ H fun vs H1 => H1 f = some (LmO f F) ∧ H1 F.c = some (LamX.CodeO F.c F.qual) ∧ sp vs H1 Q E0) := by
  refine ⟨fun pins s σ H Q I h => ?_⟩
  obtain ⟨f, F, ps, sp, hs, L, hf, ht⟩ := h
  refine wpAny_Call_Name_kw (thn ((pe_var (pos := p) hN hv hd hcd).run pins s σ H (fun v H1 => v = .ref f ∧ H1 = H) I ⟨.ref f, hs, rfl, rfl⟩) fun u s1 ⟨v, H1, I1, r1, q1⟩ => ?_)
  obtain ⟨ev, eH⟩ := q1
  subst ev
  rw [eH] at I1
  obtain rfl : u = Value.ref f := r1
  have fnAt : ∀ {H2 : Hp} {s2 : Shared}, L2.Inv X pins σ H2 s2 → H2 f = some (LmO f F) → PySem.W.FnAt f s2.heap := fun J e => by
    obtain ⟨od, sl, pm, ctv, ho⟩ := lmO_at J.hok e
    exact ⟨_, od, _, sl, ho⟩
  refine PySem.W.callWith_F (first := []) (fnAt I1 hf) (thn (ha.run pos pins s1 σ H _ I1 ht) fun us s2 ⟨vs, H2, I2, r, h1, h2, q⟩ => ⟨fnAt I2 h1, ?_⟩) he hpl
  show wpAny _ _ (call (.ref f) us) _ _ _
  refine wpAny_call (codeAny_mono (L.run X.A X.stack s2 H2 us vs Q hr I2.env0 h1 h2 r q) fun r s' hq => ?_)
  cases r with
  | error er => exact pass0 pins σ H2 s2 er s' I2 hq
  | ok fl =>
    cases fl with
    | ret u => exact I2.after hq
    | next => exact False.elim hq
    | brk => exact False.elim hq
    | cont => exact False.elim hq
end Ask
namespace Ask
open PySem L2 PySem.Spec PyProof.Rows PySem.AskX
/-! ### C(), C an own error class without an __init__ of its own -/
theorem pe_err0 {X : Cx} {C : Addr} {bmB : List Value} {B newId initId : String} {x : Str} {p pos : Pos} (F : ExcBaseFacts B newId initId bmB) (q : PySem.W.excIn X.K C bmB newId = true) (gC : X.mg x = some (.ref C)) (kC : PySem.W.keepIn X.K (.ref C) = true) (hg : Gl X x) (hdb : (x == ("__debug__" : Str)) = false := by decide) :
    PE X (.Call (.Name x p) [] [] pos) (fun _ H Q => ∀ a, H a = none → Q (.ref a) (L2.upd H a (exo a C none))) := by
  refine ⟨fun pins s σ H Q I h => ?_⟩
  refine wpAny_Call_Name_kw (ld_glob I hg gC ?_ hdb)
  refine PySem.W.callWith_K0 I.kIn kC ?_
  obtain ⟨bm, N, nm, qn, bs, hdct, sn, sub, ab, col, dd, k0, k1, k2, k3, k5, mN, hC, hN, hni, T⟩ := exc_obj I.kIn q
  refine wpAny_call_exc_subT F T hC hN hni (fun h' a hm => ?_) (Nat.zero_le _)
  have hn : H a = none := I.hok.gone hm.new
  obtain ⟨t, ht, _, _⟩ := hm.there
  exact ⟨.ref a, L2.upd H a (exo a C none), I.laidN hm.keeps hm.new hn (exo_ok ht), rfl, h a hn⟩
/-! ### repr of a list, where some items may be dicts -/
/-- an item: data without a dict, an empty dict, a dict of a text to a number -/
inductive Dx (K : PySem.W.Frag) (H : Hp) : V → PyData → Prop
  | dp {v d} (h : Dp K H v d) (hd : d.hasDict = false) : Dx K H v d
  | d0 {a} (h : H a = some (.dK [])) : Dx K H (.ref a) (.dict [])
  | d1 {a} {z : Str} {i : Int} (h : H a = some (.dK [(.inr z, .int i)])) : Dx K H (.ref a) (.dict [(.str z, .int i)])
theorem Dx.reads {X : Cx} {pins : List (Addr × Obj)} {σ : L2.St} {H : Hp} {s : Shared} (I : L2.Inv X pins σ H s) {v : V} {d : PyData} {u : Value} (h : Dx X.K H v d) (r : RelV v u) : ∃ as, Reads s.heap u d as ∧ (d.hasDict = true → sysModules ∉ as) := by
  cases h with
  | dp h hd =>
    obtain ⟨as, q⟩ := Dp.reads I d v u h r
    exact ⟨as, q, fun e => by rw [hd] at e; cases e⟩
  | @d0 a h =>
    obtain rfl : u = Value.ref a := r
    obtain ⟨_, hs, vs, rel, o, es, ep, ho, hx, hdat, hk, hp, nd⟩ := dk_of I.hok h
    cases rel
    have e0 : es.toList = [] := by
      cases q : es.toList with
      | nil => rfl
      | cons y z => rw [q] at hp; cases hp
    refine ⟨[a] ++ [], .dict ho hx.1 hdat (as := []) (bs := []) ?_ ?_, fun _ hm => ?_⟩
    · rw [e0]; exact .nil
    · rw [e0]; exact .nil
    · rw [List.append_nil] at hm
      exact absurd (List.mem_singleton.mp hm) (fun e => by rw [← e] at hs; simp at hs)
  | @d1 a z i h =>
    obtain rfl : u = Value.ref a := r
    obtain ⟨_, hs, vs, rel, o, es, ep, ho, hx, hdat, hk, hp, nd⟩ := dk_of I.hok h
    cases rel with
    | @cons p q ps qs h1 h2 =>
      cases h2
      obtain ⟨e1, e2⟩ := h1
      obtain ⟨k, w⟩ := q
      obtain ⟨t2, e2⟩ := e2
      have e1 : Sum.inr z = k := e1
      subst e1
      have e2 : w = Value.int i t2 := e2
      subst e2
      cases q : es.toList with
      | nil => rw [q] at hp; cases hp
      | cons y r =>
        rw [q] at hp
        cases hp with
        | cons c1 c2 c3 =>
          cases c3
          have ky : ∃ t, y.key = .str z t := by
            have c0 : keyIs (.inr z) y.key = true := c1
            rcases keyIs_shape c0 with ⟨_, _, e, _⟩ | ⟨x, t, e1, e2⟩
            · cases e
            · cases e1; exact ⟨t, e2⟩
          obtain ⟨t1, ek⟩ := ky
          have ev : y.val = .int i t2 := c2
          refine ⟨(a :: []) ++ [], .dict ho hx.1 hdat (as := [] ++ []) (bs := [] ++ []) ?_ ?_, fun _ hm => ?_⟩
          · rw [q]
            show ReadsAll s.heap [y.key] [.str z] _
            rw [ek]
            exact .cons (.str _ _) .nil
          · rw [q]
            show ReadsAll s.heap [y.val] [.int i] _
            rw [ev]
            exact .cons (.int _ _) .nil
          · rw [List.append_nil] at hm
            exact absurd (List.mem_singleton.mp hm) (fun e => by rw [← e] at hs; simp at hs)
end Ask
namespace Ask
open PySem L2 PySem.Spec PyProof.Rows PySem.AskX
inductive DxAll (K : PySem.W.Frag) (H : Hp) : List V → List PyData → Prop
  | nil : DxAll K H [] []
  | cons {v vs d ds} (h : Dx K H v d) (t : DxAll K H vs ds) : DxAll K H (v :: vs) (d :: ds)
def shortAll (ds : List PyData) : Prop := ∀ d ∈ ds, d.showable = true ∧ d.depth ≤ 20 ∧ d.shown.length ≤ 1000
theorem reprAll_dx {X : Cx} {pins : List (Addr × Obj)} {σ : L2.St} {H : Hp} {s : Shared} (I : L2.Inv X pins σ H s) : ∀ {vs : List V} {ds : List PyData} {us : List Value}, DxAll X.K H vs ds → Vals vs us → shortAll ds →
    ∃ bs, (∃ as, ReadsAll s.heap us ds as) ∧ ReadAtMost s.heap (PyData.depthAll ds) bs ∧ ReprAllK X.prog X.w bs s.heap (PyData.depthAll ds) us (PyData.shownAll ds) ∧ PyData.depthAll ds ≤ 20
  | _, _, _, .nil, .nil, _ => ⟨[], ⟨_, .nil⟩, fun _ h => (by cases h), by simp only [PyData.shownAll]; exact .nil, by simp only [PyData.depthAll]; decide⟩
  | _, _, _, .cons (d := d) (ds := ds) h t, .cons r rs, hs => by
    obtain ⟨b2, ⟨a2, e2⟩, hb2, k2, l2⟩ := reprAll_dx I t rs (fun d m => hs d (List.mem_cons_of_mem _ m))
    obtain ⟨a1, e1, hm⟩ := h.reads I r
    obtain ⟨s1, s2, s3⟩ := hs d (List.mem_cons_self ..)
    obtain ⟨b1, hb1, k1⟩ := ReprK.of_reads (prog := X.prog) (w := X.w) e1 s1 hm (Nat.le_trans s3 (by decide))
    refine ⟨b1 ++ b2, ⟨_, .cons e1 e2⟩, ?_, ?_, ?_⟩
    · simp only [PyData.depthAll]
      intro b hmb
      rcases List.mem_append.mp hmb with hmb | hmb
      · obtain ⟨d', as', r', hd'⟩ := hb1 b hmb
        exact ⟨d', as', r', Nat.le_trans hd' (Nat.le_max_left _ _)⟩
      · obtain ⟨d', as', r', hd'⟩ := hb2 b hmb
        exact ⟨d', as', r', Nat.le_trans hd' (Nat.le_max_right _ _)⟩
    · simp only [PyData.depthAll, PyData.shownAll]
      exact .cons ((k1.more fun b hb => List.mem_append_left _ hb).level_le (Nat.le_max_left _ _)) (k2.more_le (fun b hb => List.mem_append_right _ hb) (Nat.le_max_right _ _))
    · simp only [PyData.depthAll]
      exact Nat.max_le.mpr ⟨s2, l2⟩
/-- repr of a list whose items may be dicts, where no guard stands -/
theorem call_repr_dx {X : Cx} (hg : X.A.guards = some []) (hu : X.A.units + 30 < cLine) : CallR X (.builtin "repr") (fun xs H Q => ∃ a vs ds, xs = [.ref a] ∧ H a = some (.lst vs) ∧ DxAll X.K H vs ds ∧ shortAll ds ∧ (listText (PyData.shownAll ds)).length ≤ 100000 ∧ Q (.str (listText (PyData.shownAll ds))) H) := by
  intro pins s σ H xs us Q I r h
  obtain ⟨a, vs, ds, rfl, ha, hd, hs, hz, q⟩ := h
  obtain ⟨u, rfl, ru⟩ := vals1 r
  cases ru
  have ok := I.hok a _ ha
  obtain ⟨hsz, its, n, rv, ho⟩ := ok
  obtain ⟨bs, ⟨as, rd⟩, hb, hk, hl⟩ := reprAll_dx I hd rv hs
  have rr : Reads s.heap (.ref a) (.list ds) _ := .list ho rfl rfl rd
  have hna : a ∉ bs := not_mem_of_deeper rr (by simp only [PyData.depth]; omega) hb
  have F := F.slot_list_repr
  refine call_repr_slot (T := "list") (idr := "list.__repr__") (by omega) ⟨_, ho, rfl⟩ F.toG ?_
  cases its with
  | nil =>
    cases rd
    exact call_list_repr_empty ⟨_, ho, rfl⟩ ho rfl ⟨_, _, rfl, .str _, H, I.tok _, ⟨_, rfl⟩, by simpa only [PyData.shownAll, listText_nil] using q⟩
  | cons x l =>
    exact call_list_reprK (d := PyData.depthAll ds) ho rfl rfl hna (by simpa using hk.length_eq) (fun i y e => hk.item i y (by simpa using e)) (A := X.A.in1) hg (fun b _ => Clear.nil b) (by show X.A.units + 1 + (PyData.depthAll ds + 1) < cLine; omega) (fun _ _ e => e) (fun h' t tk hk => ⟨_, _, rfl, .str (listText (PyData.shownAll ds)), H, I.kept (t' := tk) hk, ⟨_, rfl⟩, q⟩) (Nat.le_trans hz (by decide))
end Ask
namespace Ask
open PySem L2 PySem.Spec PyProof.Rows
/-! ### a law whose own def prints lists: it is entered from the caller of the claim, where no guard stands -/
section
variable {P : Program} {w : World} {K : PySem.W.Frag} {mg mb : Str → Option Value} {a : Addr} {s₁ : Shared} {vs : List Value} {ns : List Int}
/-- only the script is told of -/
structure OnlyA (K : PySem.W.Frag) (a : Addr) (H : Hp) : Prop where
  at_ : ∀ b, H b ≠ none → b = a
  out : H a ≠ none → K.lookup a = none
  frz : ∀ b, H b = none ∨ ∃ o xs, H b = some (.frz o (.lst xs))
theorem env_at {H : Hp} (oa : OnlyA K a H) (KX : K.In s₁.heap) (g1 : s₁.heap.Ns mainGlobals mg) (g2 : s₁.heap.Ns builtinsNs mb) (g3 : ∀ x : Str, x ≠ "__name__" → mb x = bootBuiltins x) (g4 : s₁.heap.NoLimit) (g5 : s₁.gens = #[])
    (ha : s₁.heap.get? a = some { cls := .type "list", data := .seq vs.toArray }) (hok : HOk P w H s₁.heap) :
    K.In (hidT s₁.heap H) ∧ (hidT s₁.heap H).Ns mainGlobals mg ∧ Env0 P w K mg (hidT s₁.heap H) callerA [] s₁ H := by
  have free : ∀ {b : Addr}, b ≠ a → H b = none := fun {b} n => Classical.byContradiction fun q => n (oa.at_ b q)
  have dict : ∀ {b : Addr} {o : Obj} {es : Array DictEntry} {ep : Nat}, s₁.heap.get? b = some o → o.data = .dict es ep → H b = none := by
    intro b o es ep e d
    refine free fun q => ?_
    rw [q, ha] at e
    have e := Option.some.inj e
    subst e
    exact nomatch (show Data.seq vs.toArray _ = Data.dict es ep from d)
  have ns : ∀ {b : Addr} {m : Str → Option Value}, s₁.heap.Ns b m → (hidT s₁.heap H).Ns b m := by
    rintro b m ⟨o, es, ep, e, d, r⟩
    exact ⟨o, es, ep, hidT_get e (dict e d), d, r⟩
  have kin : K.In (hidT s₁.heap H) := by
    intro b o e
    refine hidT_get (KX b o e) (Classical.byContradiction fun q => ?_)
    have eb := oa.at_ b q
    rw [eb] at q e
    rw [oa.out q] at e
    cases e
  obtain ⟨mc, l1, l2⟩ := g4
  have M : Mod K mg (hidT s₁.heap H) := ⟨kin, ns g1, ⟨mb, ns g2, g3⟩, ⟨mc, ns l1, l2⟩⟩
  refine ⟨kin, ns g1, ⟨rfl, M, fun b o e => of_hidT e, Nat.le_of_eq (hidT_size _ _), trivial, ?_, hok, .of_eq g5⟩⟩
  intro b hb
  have : b ∈ ([] : List Addr) := hb
  cases this
/-- the law's def, entered there; its body may use that no guard stands -/
theorem enter_g {k : Nat} {f : Addr} {x qual : Str} {st : Stmt} {fd : FuncData} {N ps : List Str} {base : Heap} {H : Hp} {us : List Value} {xs : List V} {Q : VK} (F : Fun K x qual st f fd) (S : FnScope N ps (defScope st)) (hr : Room (k + 1) callerA)
    (e0 : Env0 P w K mg base callerA [] s₁ H) (hb : BindsTo s₁ fd ⟨us, []⟩ (ps.zip us)) (rv : Vals xs us) (hl : xs.length = ps.length)
    (body : ∀ cdv : Value, Room k (callerA.deeper (envOfC qual (defScope st) s₁.heap.objs.size f cdv)) → (callerA.deeper (envOfC qual (defScope st) s₁.heap.objs.size f cdv)).guards = some [] →
      ∃ t, PSs (cxOf CX0 P w K mg base N qual (defScope st) f cdv callerA [] s₁ H fun _ _ _ => False).nox (defBody st) t ∧ t { nx := fun _ H' => Q .non H', rt := Q } (start N xs) H) :
    codeAny (model P w) callerA (.call (.ref f) ⟨us, []⟩) (CR CX0 [] P w H s₁ Q fun _ _ _ => False) s₁ := by
  obtain ⟨oc, od, kV, doc, pm, an, cdv, ct, osl, rfl, lk, hcd⟩ := F.ex
  have keep : ∀ b o, base.get? b = some o → s₁.heap.get? b = some o := fun b o e => (e0.bs b o e).1
  have KX : K.In s₁.heap := e0.mod.kin.keeps keep
  have lim : s₁.heap.NoLimit := e0.mod.nolimit.keeps keep
  have kinds : ∀ y ∈ ps.zip us, (defScope st).names.lookup y.1 = some .local ∨ ((defScope st).names.lookup y.1 = some .cell ∧ ((cellsFrom (s₁.heap.objs.size + 1) (defScope st).names []).lookup y.1).isSome = true) := by
    rintro ⟨n, v⟩ hy
    cases S.par n (List.of_mem_zip hy).1 with
    | inl q => exact .inl q
    | inr q => exact .inr ⟨q, PySem.W.cellsFrom_some _ _ _ (.inl q)⟩
  refine codeAny_call_function hr.depth (KX _ _ lk) rfl S.co S.gen rfl (PySem.W.codeRec_of KX hcd) (hb _ _ _ _ (wpAny_newFunctionEnv_cells S.kind kinds fun env he s2 q => ?_))
  subst he
  obtain ⟨t, ht, hq⟩ := body cdv (hr.deeper _) rfl
  have I := inv_start (CX := CX0) (E := fun _ _ _ => False) S hr.hd e0 hl rv q
  refine ⟨lim.keeps q.toInCall.keep, codeAny_func (wpAny_mono (ht.nox.run [] s2 (start N xs) H _ I hq) (fun fl s' hs => ?_) fun _ _ z => z)⟩
  cases fl with
  | ret u => obtain ⟨v, σ', H', J, r, q⟩ := hs; exact ⟨v, H', J.os, J.bare, J.base, J.hok, r, q⟩
  | next => obtain ⟨σ', H', J, q⟩ := hs; exact ⟨.non, H', J.os, J.bare, J.base, J.hok, rfl, q⟩
  | brk => obtain ⟨_, _, _, q⟩ := hs; exact q.elim
  | cont => obtain ⟨_, _, _, q⟩ := hs; exact q.elim
end
/-- the end of such a law: B tells the body for every base -/
theorem walk_g {l : PySem.W.OpenLaw} {n k : Nat} {q : Program} {loose : List Str} {XP : (Str → Option Value) → Heap → Prop} {YP : World → Heap → Prop} {d : DefRec} {K : Params → PySem.W.Frag} {x qual : Str} {st : Stmt} {N : List Str} (hn : l.most = some n) (hn2 : n ≤ sizeLine) (hdf : d.params.defaults = []) (hr : Room (k + 1) callerA)
    (hY : ∀ (w : World) (h : Heap), YP w h → (K w.params).In h) (S : FnScope N [x] (defScope st))
    (F : ∀ (w : World) (mg : Str → Option Value) (fa : Addr) (h : Heap), (K w.params).In h → h.Ns mainGlobals mg → mg d.name = some (.ref fa) →
      ∃ fd : FuncData, Fun (K w.params) qual qual st fa fd ∧ (∀ (s : Shared) (u : Value), BindsTo s fd ⟨[u], []⟩ [(x, u)]) ∧
        ∀ (base : Heap) (s₁ : Shared) (H : Hp) (a : Addr) (ns : List Int) (cdv : Value), (K w.params).In base → base.Ns mainGlobals mg → SqL (K w.params) H a (ns.map V.int) → ns.length ≤ n →
          Room k (callerA.deeper (envOfC qual (defScope st) s₁.heap.objs.size fa cdv)) → (callerA.deeper (envOfC qual (defScope st) s₁.heap.objs.size fa cdv)).guards = some [] →
          ∃ t, PSs (cxOf CX0 l.prog w (K w.params) mg base N qual (defScope st) fa cdv callerA [] s₁ H fun _ _ _ => False).nox (defBody st) t ∧ t { nx := fun _ _ => V.non = V.bl true, rt := fun v _ => v = .bl true } (start N [.ref a]) H) :
    PySem.W.WalkO q loose XP YP l.row.toRowW d [] (fun f vs => PySem.call f vs) := by
  refine Att.attach_call hn hdf fun w s₀ s₁ mg mb fa o pm cd doc a vs ns G Y _ _ _ hmg hobj hints hlen hg => ?_
  have KX := hY w _ Y
  obtain ⟨fd, Fd, hb, body⟩ := F w mg fa _ KX G.T.g hmg
  have rv := vals_ints hints
  have lenV := hints.length
  have main : ∀ H : Hp, OnlyA (K w.params) a H → SqL (K w.params) H a (ns.map V.int) → HOk l.prog w H s₁.heap →
      codeAny (model l.prog w) callerA (.call (.ref fa) ⟨[.ref a], []⟩) (fun r s' => r = .ok (.ret (.bool true)) ∧ OldK s₁.heap s'.heap ∧ s'.os = s₁.os ∧ AllBare s'.gens) s₁ := by
    intro H oa hS hok
    obtain ⟨kin, gl, e0⟩ := env_at oa KX G.T.g G.T.b G.T.builtins G.T.nolimit hg hobj hok
    refine codeAny_mono (enter_g (xs := [.ref a]) Fd S hr e0 (hb s₁ (.ref a)) (.cons rfl .nil) rfl (Q := fun v _ => v = .bl true) fun cdv h1 h2 => body _ s₁ H a ns cdv kin gl hS hlen h1 h2) fun r s' h => ?_
    cases r with
    | error e => exact h.elim
    | ok fl =>
      cases fl with
      | ret u =>
        obtain ⟨v, H', os, bare, un, hok', r', rfl⟩ := h
        obtain rfl : u = Value.bool true := r'
        refine ⟨rfl, OldK.of_keep fun b o e => ?_, os, bare⟩
        cases z : H b with
        | none => exact un.keep b o e z (by intro q; have : b ∈ ([] : List Addr) := q; cases this) (by simp)
        | some u =>
          rcases oa.frz b with z2 | ⟨ob, xs, z2⟩
          · rw [z2] at z; cases z
          · have t1 := (hok b _ z2).1
            have t2 := (hok' b _ (un.frzs b ob _ z2)).1
            rw [e] at t1
            rw [t2, t1]
      | next => exact False.elim h
      | brk => exact False.elim h
      | cont => exact False.elim h
  have hsz : (ns.map V.int).length ≤ sizeLine := by rw [List.length_map]; exact Nat.le_trans hlen hn2
  cases hk : (K w.params).lookup a with
  | some o =>
    have e := KX a o hk
    rw [hobj] at e
    cases e
    refine main (fun _ => none) ⟨fun _ z => absurd rfl z, fun z => absurd rfl z, fun _ => .inl rfl⟩ (.inr ⟨_, vs.toArray, _, hk, rfl, rfl, rfl, ?_, by simpa using rv⟩) fun b u z => nomatch (show (none : Option HO) = some u from z)
    rw [List.size_toArray, lenV]; exact Nat.le_trans hlen hn2
  | none =>
    have hit : (fun b => if b = a then some (HO.frz { cls := .type "list", data := .seq vs.toArray } (.lst (ns.map V.int))) else none) a = some (HO.frz { cls := .type "list", data := .seq vs.toArray } (.lst (ns.map V.int))) := if_pos rfl
    refine main (fun b => if b = a then some (.frz { cls := .type "list", data := .seq vs.toArray } (.lst (ns.map V.int))) else none) ⟨fun b z => ?_, fun _ => hk, fun b => ?_⟩ (.inl (.inr ⟨_, hit⟩)) fun b u z => ?_
    · exact Classical.byContradiction fun q => z (if_neg q)
    · by_cases q : b = a
      · exact .inr ⟨_, _, if_pos q⟩
      · exact .inl (if_neg q)
    · by_cases q : b = a
      · subst q
        have z' := hit.symm.trans z
        cases z'
        exact ⟨hobj, hsz, vs, _, rv, hobj⟩
      · have z' := (if_neg q).symm.trans z
        cases z'
section
variable {X : Cx}
/-- repr of data, where no guard stands -/
theorem call_repr_data (hg : X.A.guards = some []) (hu : X.A.units + 30 < cLine) : CallR X (.builtin "repr") (fun xs H Q => ∃ v d, xs = [v] ∧ Dp X.K H v d ∧ d.showable = true ∧ d.hasDict = false ∧ d.depth ≤ 20 ∧ d.shown.length ≤ 100000 ∧ Q (.str d.shown) H) := by
  intro pins s σ H xs us Q I r h
  obtain ⟨v, d, rfl, hd, h1, h2, h3, h4, q⟩ := h
  obtain ⟨u, rfl, ru⟩ := vals1 r
  obtain ⟨as, rd⟩ := Dp.reads I d v u hd ru
  have hz : d.shown.length ≤ sizeLine := Nat.le_trans h4 (by decide)
  cases v with
  | ref a =>
    cases ru
    exact repr_of_reads' rd h1 (fun e => by rw [h2] at e; cases e) hg (by omega) (fun _ _ e => e) (fun h' t tk hk => ⟨.str d.shown, H, I.kept (t' := tk) hk, ⟨_, rfl⟩, q⟩) hz
  | non =>
    cases hd
    obtain rfl : u = Value.none := ru
    exact PySem.P.repr_of_none ⟨.str _, H, I.tok _, ⟨_, rfl⟩, by simpa only [PyData.shown] using q⟩
  | bl b =>
    cases hd
    obtain rfl : u = Value.bool b := ru
    refine PySem.P.repr_of_bool ?_
    have q2 : Q (.str (if b = true then ("True" : String) else ("False" : String))) H := by
      have := q
      simp only [PyData.shown] at this
      cases b <;> exact this
    exact ⟨.str _, H, I.tok _, ⟨_, rfl⟩, q2⟩
  | int i =>
    cases hd
    obtain ⟨t, rfl⟩ := ru
    exact PySem.P.repr_of_int (of_decide_eq_true (by simpa only [PyData.showable] using h1)) ⟨.str _, H, I.tok _, ⟨_, rfl⟩, by simpa only [PyData.shown] using q⟩
  | str x =>
    cases hd
    obtain ⟨t, rfl⟩ := ru
    have hz2 : (reprText x).length ≤ sizeLine := by simpa only [PyData.shown] using hz
    exact PySem.P.repr_of_str (hsz := hz2) ⟨.str _, H, I.tok _, ⟨_, rfl⟩, by simpa only [PyData.shown] using q⟩
  | byt _ => cases hd
  | flt _ => cases hd
  | ty _ => cases hd
end
end Ask
namespace Ask
open PySem L2 PySem.Spec PyProof.Rows LamX
/-! ### the end of a law whose own def prints lists, and whose helpers make lambdas: tabs are the code objects with their tables -/
section
variable {P : Program} {w : World} {K : PySem.W.Frag} {mg mb : Str → Option Value} {a : Addr} {s₁ : Shared} {vs : List Value} {ns : List Int} {tabs : List (Addr × Addr)}
abbrev isTabOf (tabs : List (Addr × Addr)) (b : Addr) : Prop := ∃ q ∈ tabs, q.2 = b
abbrev emptyTab : Obj := { cls := .none, data := .fields #[] }
structure OnlyT (K : PySem.W.Frag) (a : Addr) (tabs : List (Addr × Addr)) (H : Hp) : Prop where
  at_ : ∀ b, H b ≠ none → b = a ∨ isTabOf tabs b
  out : H a ≠ none → K.lookup a = none
  tb : ∀ q ∈ tabs, H q.2 = some (.tbl #[])
  frz : ∀ b, H b = none ∨ isTabOf tabs b ∨ ∃ o xs, H b = some (.frz o (.lst xs))
structure TabsIn (K : PySem.W.Frag) (h : Heap) (tabs : List (Addr × Addr)) : Prop where
  at_ : ∀ q ∈ tabs, h.get? q.2 = some emptyTab
  out : ∀ q ∈ tabs, K.lookup q.2 = none
  hd : ∀ q ∈ tabs, PySem.W.CodeHd h q.1 q.2
theorem envT_at {H : Hp} (oa : OnlyT K a tabs H) (TI : TabsIn K s₁.heap tabs) (KX : K.In s₁.heap) (g1 : s₁.heap.Ns mainGlobals mg) (g2 : s₁.heap.Ns builtinsNs mb) (g3 : ∀ x : Str, x ≠ "__name__" → mb x = bootBuiltins x) (g4 : s₁.heap.NoLimit) (g5 : s₁.gens = #[])
    (g6 : ∃ (m : Addr) (o : Obj), mg "__builtins__" = some (.ref m) ∧ m ≠ builtinsNs ∧ s₁.heap.get? m = some o ∧ o.cls = .type "module" ∧ o.dict = some builtinsNs ∧ o.data = .plain)
    (ha : s₁.heap.get? a = some { cls := .type "list", data := .seq vs.toArray }) (hok : HOk P w H s₁.heap) :
    K.In (hidT s₁.heap H) ∧ (hidT s₁.heap H).Ns mainGlobals mg ∧ (∀ q ∈ tabs, TabB (hidT s₁.heap H) mg q.1 q.2) ∧ Env0 P w K mg (hidT s₁.heap H) callerA [] s₁ H := by
  have tabAt : ∀ {b : Addr}, isTabOf tabs b → s₁.heap.get? b = some emptyTab := by
    rintro b ⟨q, hq, rfl⟩
    exact TI.at_ q hq
  have seen : ∀ {b : Addr} {o : Obj}, s₁.heap.get? b = some o → (∀ xs n, o.data = .seq xs n → False) → (o.data = .fields #[] → False) → H b = none := by
    intro b o e n1 n2
    refine Classical.byContradiction fun q => ?_
    cases oa.at_ b q with
    | inl z =>
      rw [z, ha] at e
      have e := Option.some.inj e
      subst e
      exact n1 _ _ rfl
    | inr z =>
      rw [tabAt z] at e
      have e := Option.some.inj e
      subst e
      exact n2 rfl
  have dict : ∀ {b : Addr} {o : Obj} {es : Array DictEntry} {ep : Nat}, s₁.heap.get? b = some o → o.data = .dict es ep → H b = none := fun e d =>
    seen e (fun xs n z => nomatch d.symm.trans z) (fun z => nomatch d.symm.trans z)
  have ns : ∀ {b : Addr} {m : Str → Option Value}, s₁.heap.Ns b m → (hidT s₁.heap H).Ns b m := by
    rintro b m ⟨o, es, ep, e, d, r⟩
    exact ⟨o, es, ep, hidT_get e (dict e d), d, r⟩
  have kin : K.In (hidT s₁.heap H) := by
    intro b o e
    refine hidT_get (KX b o e) (Classical.byContradiction fun q => ?_)
    rcases oa.at_ b q with eb | ⟨t, ht, eb⟩
    · rw [eb] at q e
      rw [oa.out q] at e
      cases e
    · rw [← eb, TI.out t ht] at e
      cases e
  obtain ⟨mc, l1, l2⟩ := g4
  have M : Mod K mg (hidT s₁.heap H) := ⟨kin, ns g1, ⟨mb, ns g2, g3⟩, ⟨mc, ns l1, l2⟩⟩
  have noG : ∀ {b : Addr}, isTabOf tabs b → b ≠ mainGlobals := by
    intro b hb z
    obtain ⟨o, es, ep, e, d, _⟩ := g1
    rw [← z, tabAt hb] at e
    have e := Option.some.inj e
    subst e
    exact nomatch (show Data.fields #[] = Data.dict es ep from d)
  refine ⟨kin, ns g1, fun q hq => ?_, ⟨rfl, M, fun b o e => of_hidT e, Nat.le_of_eq (hidT_size _ _), trivial, ?_, hok, .of_eq g5⟩⟩
  · have isT : isTabOf tabs q.2 := ⟨q, hq, rfl⟩
    refine ⟨?_, ?_, fun z => noG isT z.symm⟩
    · obtain ⟨o, us, v1, v2, v3, v4, v5, v6, v7, e, c1, c2, c3, c4, c5, c6, c7, c8, c9⟩ := TI.hd q hq
      refine ⟨o, us, v1, v2, v3, v4, v5, v6, v7, hidT_get e (seen e (fun xs n z => ?_) fun z => ?_), c1, c2, c3, c4, c5, c6, c7, c8, c9⟩
      · rw [c2] at z
        exact nomatch z
      · rw [c2] at z
        injection z with z
        rw [z] at c3
        simp at c3
    · obtain ⟨m, o, h1, h2, h3, h4, h5, h6⟩ := g6
      refine ⟨m, o, h1, h2, fun z => ?_, fun z => ?_, hidT_get h3 (seen h3 (fun xs n z => ?_) fun z => ?_), h4, h5, h6⟩
      · obtain ⟨o', es, ep, e, d, _⟩ := g1
        rw [← z, h3] at e
        have e := Option.some.inj e
        subst e
        rw [h6] at d
        exact nomatch d
      · rw [z, tabAt isT] at h3
        have h3 := Option.some.inj h3
        subst h3
        exact nomatch (show Data.fields #[] = Data.plain from h6)
      · rw [h6] at z
        exact nomatch z
      · rw [h6] at z
        exact nomatch z
  · intro b hb
    have : b ∈ ([] : List Addr) := hb
    cases this
end
theorem walk_gT {l : PySem.W.OpenLaw} {n k : Nat} {q : Program} {loose : List Str} {XP : (Str → Option Value) → Heap → Prop} {YP : World → Heap → Prop} {d : DefRec} {K : Params → PySem.W.Frag} {x qual : Str} {st : Stmt} {N : List Str} {tabs : List (Addr × Addr)} (hn : l.most = some n) (hn2 : n ≤ sizeLine) (hdf : d.params.defaults = []) (hr : Room (k + 1) callerA)
    (hY : ∀ (w : World) (h : Heap), YP w h → (K w.params).In h) (hY2 : ∀ (w : World) (h : Heap), YP w h → TabsIn (K w.params) h tabs) (S : FnScope N [x] (defScope st))
    (F : ∀ (w : World) (mg : Str → Option Value) (fa : Addr) (h : Heap), (K w.params).In h → h.Ns mainGlobals mg → mg d.name = some (.ref fa) →
      ∃ fd : FuncData, Fun (K w.params) qual qual st fa fd ∧ (∀ (s : Shared) (u : Value), BindsTo s fd ⟨[u], []⟩ [(x, u)]) ∧
        ∀ (base : Heap) (s₁ : Shared) (H : Hp) (a : Addr) (ns : List Int) (cdv : Value), (K w.params).In base → base.Ns mainGlobals mg → (∀ q ∈ tabs, TabB base mg q.1 q.2) → (∀ q ∈ tabs, H q.2 = some (.tbl #[])) → SqL (K w.params) H a (ns.map V.int) → ns.length ≤ n →
          Room k (callerA.deeper (envOfC qual (defScope st) s₁.heap.objs.size fa cdv)) → (callerA.deeper (envOfC qual (defScope st) s₁.heap.objs.size fa cdv)).guards = some [] →
          ∃ t, PSs (cxOf CX0 l.prog w (K w.params) mg base N qual (defScope st) fa cdv callerA [] s₁ H fun _ _ _ => False).nox (defBody st) t ∧ t { nx := fun _ _ => V.non = V.bl true, rt := fun v _ => v = .bl true } (start N [.ref a]) H) :
    PySem.W.WalkO q loose XP YP l.row.toRowW d [] (fun f vs => PySem.call f vs) := by
  refine Att.attach_call hn hdf fun w s₀ s₁ mg mb fa o pm cd doc a vs ns G Y _ _ _ hmg hobj hints hlen hg => ?_
  have KX := hY w _ Y
  have TI := hY2 w _ Y
  obtain ⟨fd, Fd, hb, body⟩ := F w mg fa _ KX G.T.g hmg
  have rv := vals_ints hints
  have lenV := hints.length
  have notT : ¬ isTabOf tabs a := by
    rintro ⟨q, hq, e⟩
    have z := TI.at_ q hq
    rw [e, hobj] at z
    have z := Option.some.inj z
    exact nomatch (show Data.seq vs.toArray _ = Data.fields #[] from congrArg Obj.data z)
  have main : ∀ H : Hp, OnlyT (K w.params) a tabs H → SqL (K w.params) H a (ns.map V.int) → HOk l.prog w H s₁.heap →
      codeAny (model l.prog w) callerA (.call (.ref fa) ⟨[.ref a], []⟩) (fun r s' => r = .ok (.ret (.bool true)) ∧ OldK s₁.heap s'.heap ∧ s'.os = s₁.os ∧ AllBare s'.gens) s₁ := by
    intro H oa hS hok
    obtain ⟨kin, gl, tb, e0⟩ := envT_at oa TI KX G.T.g G.T.b G.T.builtins G.T.nolimit hg G.T.bmain hobj hok
    refine codeAny_mono (enter_g (xs := [.ref a]) Fd S hr e0 (hb s₁ (.ref a)) (.cons rfl .nil) rfl (Q := fun v _ => v = .bl true) fun cdv h1 h2 => body _ s₁ H a ns cdv kin gl tb oa.tb hS hlen h1 h2) fun r s' h => ?_
    cases r with
    | error e => exact h.elim
    | ok fl =>
      cases fl with
      | ret u =>
        obtain ⟨v, H', os, bare, un, hok', r', rfl⟩ := h
        obtain rfl : u = Value.bool true := r'
        have stays : ∀ b o, ¬ isTabOf tabs b → s₁.heap.get? b = some o → s'.heap.get? b = some o := by
          intro b o nb e
          cases z : H b with
          | none => exact un.keep b o e z (by intro q; have : b ∈ ([] : List Addr) := q; cases this) (by simp)
          | some u =>
            rcases oa.frz b with z2 | z2 | ⟨ob, xs, z2⟩
            · rw [z2] at z; cases z
            · exact absurd z2 nb
            · have t1 := (hok b _ z2).1
              have t2 := (hok' b _ (un.frzs b ob _ z2)).1
              rw [e] at t1
              rw [t2, t1]
        have grows : ∀ q ∈ tabs, ∃ more : Array Value, s'.heap.get? q.2 = some { cls := .none, data := .fields more } := fun q hq =>
          let ⟨more, z⟩ := un.tbls q.2 #[] (oa.tb q hq)
          ⟨_, hok' q.2 _ z⟩
        refine ⟨rfl, ⟨fun b o e => ?_, fun b o e => ?_⟩, os, bare⟩
        · cases Classical.em (isTabOf tabs b) with
          | inr nb => exact .inl (stays b o nb e)
          | inl hb =>
            obtain ⟨q, hq, eb⟩ := hb
            subst eb
            obtain ⟨more, hm⟩ := grows q hq
            have e2 := TI.at_ q hq
            rw [e2] at e
            have e := Option.some.inj e
            subst e
            exact .inr (.inl ⟨((TI.hd q hq).tab e2).isCodeTable, rfl, #[], more, rfl, by rw [Array.empty_append]; exact hm⟩)
        · cases Classical.em (isTabOf tabs b) with
          | inr nb => exact ⟨o, stays b o nb e⟩
          | inl hb =>
            obtain ⟨q, hq, eb⟩ := hb
            obtain ⟨more, hm⟩ := grows q hq
            exact ⟨_, eb ▸ hm⟩
      | next => exact False.elim h
      | brk => exact False.elim h
      | cont => exact False.elim h
  have hsz : (ns.map V.int).length ≤ sizeLine := by rw [List.length_map]; exact Nat.le_trans hlen hn2
  let H0 : Hp := fun b => if (∃ q ∈ tabs, q.2 = b) then some (.tbl #[]) else none
  have H0t : ∀ q ∈ tabs, H0 q.2 = some (.tbl #[]) := fun q hq => if_pos ⟨q, hq, rfl⟩
  have H0n : ∀ {b : Addr}, ¬ isTabOf tabs b → H0 b = none := fun nb => if_neg nb
  have H0o : ∀ b u, H0 b = some u → ObjOk l.prog w H0 s₁.heap b u := by
    intro b u z
    cases Classical.em (isTabOf tabs b) with
    | inr nb => rw [H0n nb] at z; cases z
    | inl hb =>
      obtain ⟨q, hq, eb⟩ := hb
      subst eb
      rw [H0t q hq] at z
      have z := Option.some.inj z
      subst z
      exact TI.at_ q hq
  cases hk : (K w.params).lookup a with
  | some o =>
    have e := KX a o hk
    rw [hobj] at e
    cases e
    refine main H0 ⟨fun b z => ?_, fun z => absurd (H0n notT) z, H0t, fun b => ?_⟩ (.inr ⟨_, vs.toArray, _, hk, rfl, rfl, rfl, ?_, by simpa using rv⟩) H0o
    · exact .inr (Classical.byContradiction fun nb => z (H0n nb))
    · cases Classical.em (isTabOf tabs b) with
      | inr nb => exact .inl (H0n nb)
      | inl hb => exact .inr (.inl hb)
    · rw [List.size_toArray, lenV]; exact Nat.le_trans hlen hn2
  | none =>
    have hS0 : (L2.upd H0 a (HO.frz { cls := .type "list", data := .seq vs.toArray } (.lst (ns.map V.int)))) a = some (HO.frz { cls := .type "list", data := .seq vs.toArray } (.lst (ns.map V.int))) := upd_same
    have ne : ∀ {b : Addr}, isTabOf tabs b → b ≠ a := fun hb z => notT (z ▸ hb)
    refine main (L2.upd H0 a (.frz { cls := .type "list", data := .seq vs.toArray } (.lst (ns.map V.int)))) ⟨fun b z => ?_, fun _ => hk, fun q hq => (upd_ne (ne ⟨q, hq, rfl⟩)).trans (H0t q hq), fun b => ?_⟩ (.inl (.inr ⟨_, hS0⟩)) fun b u z => ?_
    · by_cases q : b = a
      · exact .inl q
      · rw [upd_ne q] at z
        exact .inr (Classical.byContradiction fun nb => z (H0n nb))
    · by_cases q : b = a
      · rw [q]
        exact .inr (.inr ⟨_, _, hS0⟩)
      · rw [upd_ne q]
        cases Classical.em (isTabOf tabs b) with
        | inr nb => exact .inl (H0n nb)
        | inl hb => exact .inr (.inl hb)
    · by_cases q : b = a
      · subst q
        have z' := hS0.symm.trans z
        cases z'
        exact ⟨hobj, hsz, vs, _, rv, hobj⟩
      · rw [upd_ne q] at z
        cases Classical.em (isTabOf tabs b) with
        | inr nb => rw [H0n nb] at z; cases z
        | inl hb =>
          obtain ⟨t, ht, eb⟩ := hb
          subst eb
          rw [H0t t ht] at z
          have z := Option.some.inj z
          subst z
          exact TI.at_ t ht
end Ask
namespace Ask
open PySem L2
def top (i : Nat) : Stmt := PySem.Challenge.pw_innerasks_k01_errors.main.body.getD i (.Pass ⟨0, 0, 0, 0⟩)
abbrev sBegin : Stmt := top 38
abbrev sDraw : Stmt := top 39
abbrev sPick : Stmt := top 40
abbrev sOdd : Stmt := top 41
abbrev sVE : Stmt := top 42
abbrev sME : Stmt := top 43
abbrev sOE : Stmt := top 44
abbrev sVK : Stmt := top 45
abbrev sMK : Stmt := top 46
abbrev sOK : Stmt := top 47
abbrev sBas : Stmt := top 48
abbrev sLaw : Stmt := top 49
/-! ### the tape -/
abbrev kCells : Key := Sum.inr "cells"
abbrev kPlace : Key := Sum.inr "place"
abbrev kLeft : Key := Sum.inr "left"
theorem ne_cp : ¬ (kCells = kPlace) := by decide +kernel
theorem ne_cl : ¬ (kCells = kLeft) := by decide +kernel
theorem ne_pl : ¬ (kPlace = kLeft) := by decide +kernel
theorem ne_pc : ¬ (kPlace = kCells) := by decide +kernel
theorem ne_lc : ¬ (kLeft = kCells) := by decide +kernel
theorem ne_lp : ¬ (kLeft = kPlace) := by decide +kernel
def tapeD (c : Addr) (p l : Int) : List (Key × V) := [(kCells, .ref c), (kPlace, .int p), (kLeft, .int l)]
theorem tape_cells (c : Addr) (p l : Int) : valV (tapeD c p l) kCells = some (.ref c) := by
  unfold tapeD; rw [valV_pos rfl]
theorem tape_place (c : Addr) (p l : Int) : valV (tapeD c p l) kPlace = some (.int p) := by
  unfold tapeD; rw [valV_neg ne_cp, valV_pos rfl]
theorem tape_left (c : Addr) (p l : Int) : valV (tapeD c p l) kLeft = some (.int l) := by
  unfold tapeD; rw [valV_neg ne_cl, valV_neg ne_pl, valV_pos rfl]
theorem tape_put_place (c : Addr) (p l q : Int) : putK (tapeD c p l) kPlace (.int q) = tapeD c q l := by
  unfold putK tapeD
  rw [if_pos (by simp)]
  show [if kCells = kPlace then (kCells, V.int q) else (kCells, V.ref c), if kPlace = kPlace then (kPlace, V.int q) else (kPlace, V.int p), if kLeft = kPlace then (kLeft, V.int q) else (kLeft, V.int l)] = _
  rw [if_neg ne_cp, if_pos rfl, if_neg ne_lp]
theorem tape_put_left (c : Addr) (p l q : Int) : putK (tapeD c p l) kLeft (.int q) = tapeD c p q := by
  unfold putK tapeD
  rw [if_pos (by simp)]
  show [if kCells = kLeft then (kCells, V.int q) else (kCells, V.ref c), if kPlace = kLeft then (kPlace, V.int q) else (kPlace, V.int p), if kLeft = kLeft then (kLeft, V.int q) else (kLeft, V.int l)] = _
  rw [if_neg ne_cl, if_neg ne_pl, if_pos rfl]
/-- a tape at d, p draws of cells done -/
def Tape (H : Hp) (d : Addr) (p : Int) : Prop :=
  ∃ (c : Addr) (ns : List Int) (l : Int), H d = some (.dK (tapeD c p l)) ∧ H c = some (.lst (ns.map V.int)) ∧ ns ≠ [] ∧ 0 ≤ l ∧ 0 ≤ p
/-- all that was tracked is as it was, but for d, whose cells are the same -/
structure Off (H H' : Hp) (d : Addr) : Prop where
  keep : ∀ b o, H b = some o → b ≠ d → H' b = some o
  cell : ∀ kvs : List (Key × V), H d = some (.dK kvs) → ∃ kvs' : List (Key × V), H' d = some (.dK kvs') ∧ valV kvs' kCells = valV kvs kCells
instance {H H' : Hp} {d : Addr} : CoeFun (Off H H' d) (fun _ => ∀ b o, H b = some o → b ≠ d → H' b = some o) := ⟨Off.keep⟩
theorem Off.refl (H : Hp) (d : Addr) : Off H H d := ⟨fun _ _ h _ => h, fun kvs h => ⟨kvs, h, rfl⟩⟩
theorem Off.trans {H H1 H2 : Hp} {d : Addr} (a : Off H H1 d) (b : Off H1 H2 d) : Off H H2 d := ⟨fun c o h n => b c o (a c o h n) n, fun kvs h => by
  obtain ⟨k1, h1, e1⟩ := a.cell kvs h
  obtain ⟨k2, h2, e2⟩ := b.cell k1 h1
  exact ⟨k2, h2, e2.trans e1⟩⟩
theorem Off.of_same {H H1 : Hp} {d : Addr} (a : Same H H1) : Off H H1 d := ⟨fun c u h _ => a c u h, fun kvs h => ⟨kvs, a _ _ h, rfl⟩⟩
theorem Off.new {H H1 : Hp} {d p : Addr} (a : Off H H1 d) (hp : H1 p = none) (o : HO) : Off H (L2.upd H1 p o) d := a.trans (.of_same fun b u e => by rw [upd_ne (ne_of_none e hp)]; exact e)
theorem Tape.new {H : Hp} {d p : Addr} {i : Int} (t : Tape H d i) (hp : H p = none) (o : HO) : Tape (L2.upd H p o) d i := by
  obtain ⟨c, ns, l, h1, h2, h3, h4, h5⟩ := t
  exact ⟨c, ns, l, by rw [upd_ne (ne_of_none h1 hp)]; exact h1, by rw [upd_ne (ne_of_none h2 hp)]; exact h2, h3, h4, h5⟩
theorem Tape.same {H H1 : Hp} {d : Addr} {i : Int} (t : Tape H d i) (a : Same H H1) : Tape H1 d i := by
  obtain ⟨c, ns, l, h1, h2, h3, h4, h5⟩ := t
  exact ⟨c, ns, l, a _ _ h1, a _ _ h2, h3, h4, h5⟩
theorem Off.fresh {H H1 : Hp} {d D : Addr} (a : Off H H1 d) (hD : H D = none) (n : d ≠ D) (u : HO) : Off H (L2.upd H1 D u) d :=
  ⟨fun b o e nb => by rw [upd_ne (ne_of_none e hD)]; exact a b o e nb, fun kvs e => by
    obtain ⟨k1, h1, e1⟩ := a.cell kvs e
    exact ⟨k1, by rw [upd_ne n]; exact h1, e1⟩⟩
/-- a list that was made since, changed -/
theorem Tape.fresh {H0 H : Hp} {d D : Addr} {p0 p : Int} (T : Tape H d p) (T0 : Tape H0 d p0) (o : Off H0 H d) (hD : H0 D = none) (u : HO) : Tape (L2.upd H D u) d p := by
  obtain ⟨c0, ns0, l0, u1, u2, u3, u4, u5⟩ := T0
  obtain ⟨c, ns, l, h1, h2, h3, h4, h5⟩ := T
  obtain ⟨kvs, e1, e2⟩ := o.cell _ u1
  rw [h1] at e1
  have e3 : tapeD c p l = kvs := HO.dK.inj (Option.some.inj e1)
  rw [← e3, tape_cells, tape_cells] at e2
  have e4 : c = c0 := V.ref.inj (Option.some.inj e2)
  subst e4
  exact ⟨c, ns, l, by rw [upd_ne (ne_of_none u1 hD)]; exact h1, by rw [upd_ne (ne_of_none u2 hD)]; exact h2, h3, h4, h5⟩
theorem Tape.at {H : Hp} {d : Addr} {i : Int} (t : Tape H d i) : ∃ kvs, H d = some (.dK kvs) := let ⟨_, _, _, h, _⟩ := t; ⟨_, h⟩

/-! ### a def of the text, with all that a caller wants of it -/
structure Dn (P : Program) (w : World) (K : PySem.W.Frag) (mg : Str → Option Value) (base : Heap) (k : Nat) (x : Str) (ps : List Str) (sp : Sp) : Prop where
  ex : ∃ (f : Addr) (fd : FuncData), mg x = some (.ref f) ∧ PySem.W.keepIn K (.ref f) = true ∧ Binds K fd ps [] ∧ FnOk P w K mg base CX0 k f fd ps sp
theorem pe_dn {X : Cx} {k : Nat} {x : Str} {ps : List Str} {sp : Sp} {e : Expr} {es : List Expr} {t : TA} {p pos : Pos} (D : Dn X.prog X.w X.K X.mg X.base k x ps sp) (hr : Room k X.A) (hg : Gl X x) (ha : PA X (e :: es) t) (hdb : (x == ("__debug__" : Str)) = false := by decide)
    (he : starEach (e :: es) X.env = (false, eval e X.env) :: starEach es X.env := by rfl) (hpl : (backTo pos (starEach es X.env)).any (·.1) = false := by rfl) : PE X (.Call (.Name x p) (e :: es) [] pos) (tCall sp [] E0 t) := by
  obtain ⟨f, fd, hm, kp, hb, F⟩ := D.ex
  exact pe_call F hr hg hm kp hb .nil pass0 ha hdb he hpl
theorem pe_dn0 {X : Cx} {k : Nat} {x : Str} {ps : List Str} {sp : Sp} {p pos : Pos} (D : Dn X.prog X.w X.K X.mg X.base k x ps sp) (hr : Room k X.A) (hg : Gl X x) (hdb : (x == ("__debug__" : Str)) = false := by decide) : PE X (.Call (.Name x p) [] [] pos) (tCall sp [] E0 tNil) := by
  obtain ⟨f, fd, hm, kp, hb, F⟩ := D.ex
  exact pe_call0 F hr hg hm kp hb .nil pass0 hdb
/-- the built-ins that the module leaves as they are -/
structure Blt (mg : Str → Option Value) : Prop where
  len : mg "len" = none
  int : mg "int" = none
  isi : mg "isinstance" = none
  range : mg "range" = none
  repr : mg "repr" = none
  eV : mg "ValueError" = none
  eL : mg "LookupError" = none
  eK : mg "KeyError" = none
  eA : mg "ArithmeticError" = none
  eR : mg "RuntimeError" = none

section
variable {P : Program} {w : World} {K : PySem.W.Frag} {mg : Str → Option Value} {base : Heap}
theorem boot_int : bootBuiltins ("int" : Str) = some (.type "int") := by decide +kernel
/-! ### _law_draw -/
def spDraw : Sp := fun vs H Q _ => ∃ (d : Addr) (m p : Int), vs = [.ref d, .int m] ∧ 0 < m ∧ m < 1073741824 ∧ Tape H d p ∧ p < 1000000000 ∧
  ∀ (n p' : Int) (H' : Hp), 0 ≤ n → n < m → Tape H' d p' → p' ≤ p + 1 → Off H H' d → Q (.int n) H'
abbrev nD : List Str := ["_law_tape", "_law_many", "_law_place", "_law_size", "_law_cell", "_law_found"]
theorem scD : FnScope nD ["_law_tape", "_law_many"] (defScope sDraw) := ⟨rfl, rfl, rfl, by decide +kernel, rfl, by decide +kernel, by decide +kernel⟩
theorem dg_left {H : Hp} {d c : Addr} {p l : Int} (h : H d = some (.dK (tapeD c p l))) : DGet H d (.str "left") (some (.int l)) := .inl ⟨_, kLeft, .inl h, rfl, (tape_left c p l).symm⟩
theorem dg_place {H : Hp} {d c : Addr} {p l : Int} (h : H d = some (.dK (tapeD c p l))) : DGet H d (.str "place") (some (.int p)) := .inl ⟨_, kPlace, .inl h, rfl, (tape_place c p l).symm⟩
theorem dg_cells {H : Hp} {d c : Addr} {p l : Int} (h : H d = some (.dK (tapeD c p l))) : DGet H d (.str "cells") (some (.ref c)) := .inl ⟨_, kCells, .inl h, rfl, (tape_cells c p l).symm⟩
theorem dp_left {H : Hp} {d c : Addr} {p l q : Int} (h : H d = some (.dK (tapeD c p l))) : DPut H d (.str "left") (.int q) (L2.upd H d (.dK (tapeD c p q))) :=
  .inl ⟨_, kLeft, h, rfl, small1000 (show 3 ≤ 1000 by decide), by rw [tape_put_left]⟩
theorem dp_place {H : Hp} {d c : Addr} {p l q : Int} (h : H d = some (.dK (tapeD c p l))) : DPut H d (.str "place") (.int q) (L2.upd H d (.dK (tapeD c q l))) :=
  .inl ⟨_, kPlace, h, rfl, small1000 (show 3 ≤ 1000 by decide), by rw [tape_put_place]⟩
theorem Off.put {H H1 : Hp} {d c : Addr} {p l : Int} (a : Off H H1 d) (h : H1 d = some (.dK (tapeD c p l))) (p' l' : Int) : Off H (L2.upd H1 d (.dK (tapeD c p' l'))) d := a.trans ⟨fun b u e n => by rw [upd_ne n]; exact e, fun kvs e => by
  rw [h] at e
  have e3 : tapeD c p l = kvs := HO.dK.inj (Option.some.inj e)
  exact ⟨_, upd_same, by rw [← e3, tape_cells, tape_cells]⟩⟩
theorem two_line : (2 : Nat) ≤ sizeLine := by decide
theorem ok_draw {f : Addr} {fd : FuncData} (F : Fun K "_law_draw" "_law_draw" sDraw f fd) (B : Blt mg) : FnOk P w K mg base CX0 1 f fd ["_law_tape", "_law_many"] spDraw := by
  refine F.ok scD (fun vs H Q E h => ?_) (fun cdv A outer s H vs Q E hr h => ?_)
  · obtain ⟨d, m, p, rfl, _⟩ := h
    rfl
  · obtain ⟨d, m, p, rfl, m0, m1, T, p1, k⟩ := h
    have hu := hu_of hr
    obtain ⟨c, ns, l, hd, hc, hne, l0, p0⟩ := T
    have hcd : c ≠ d := (ne_of hd hc (by intro z; cases z)).symm
    obtain ⟨tB, hB, qB⟩ : ∃ tB, PSs (cxOf CX0 P w K mg base nD "_law_draw" (defScope sDraw) f cdv A outer s H E).nox ((defBody sDraw).drop 1) tB ∧ ∀ (v2 v3 v4 : Option V) (p' l' : Int) (H1 : Hp),
        H1 d = some (.dK (tapeD c p' l')) → 0 ≤ l' → 0 ≤ p' → p' ≤ p + 1 → Off H H1 d → tB { nx := fun _ H' => Q .non H', rt := Q } [some (.ref d), some (.int m), v2, v3, v4, none] H1 := by
      refine ⟨_, pss_cons (ps_asg (pe_tup (pa_cons (pe_op op_mod (pe_callTy call_int1 (by rfl) B.int boot_int (pa_cons (pe_dget hu (pv 0) pe_str (fun _ _ => rfl)) pa_nil)) (pv 1)) (pa_cons (pe_op op_fdiv (pe_dget hu (pv 0) pe_str (fun _ _ => rfl)) (pv 1)) pa_nil)))
            (pg_tup rfl (pgs_cons (pg_name (i := 5) scD.nd rfl (.inl rfl)) (pgs_cons (pg_sub (pv 0) pe_str (set_dict hu)) pgs_nil))))
        (pss_one (ps_ret (pv 5))), fun v2 v3 v4 p' l' H1 h1 l1 q0 q1 of => ?_⟩
      refine ⟨_, rfl, d, _, rfl, dg_left h1, .inl ⟨_, rfl, _, rfl, _, _, rfl, rfl, m0, _, rfl, d, _, rfl, dg_left h1, _, rfl, _, _, rfl, rfl, ⟨m0, m1⟩, two_line, fun t ht => ?_⟩⟩
      have htd : d ≠ t := ne_of_none h1 ht
      refine ⟨t, _, rfl, SqT.of upd_same, rfl, _, _, rfl, _, _, rfl, _, rfl, d, _, rfl, dp_left (by rw [upd_ne htd]; exact h1), rfl, _, rfl, ?_⟩
      have o2 : Off H (L2.upd (L2.upd H1 t (.tup [.int (l' % m), .int (l' / m)])) d (.dK (tapeD c p' (l' / m)))) d := (of.new ht _).put (by rw [upd_ne htd]; exact h1) _ _
      exact k _ p' _ (Int.emod_nonneg _ (by omega)) (Int.emod_lt_of_pos _ m0) ⟨c, ns, l' / m, upd_same, o2 _ _ hc hcd, hne, Int.ediv_nonneg l1 (by omega), q0⟩ q1 o2
    refine ⟨_, pss_cons (ps_if (pt_cmpR op_lt (pe_dget hu (pv 0) pe_str (fun _ _ => rfl)) (pv 1) (nomark _))
        (pss_cons (ps_par (i := 2) (j := 3) rfl scD.nd rfl rfl (by decide) rfl rfl (pa_cons (pe_dget hu (pv 0) pe_str (fun _ _ => rfl)) (pa_cons (pe_callB call_len_seq (by rfl) B.len PySem.boot_len (pa_cons (pe_dget hu (pv 0) pe_str (fun _ _ => rfl)) pa_nil)) pa_nil)) (by rfl))
        (pss_cons (ps_asg (pe_tup (pa_cons (pe_ix ix_list (pe_dget hu (pv 0) pe_str (fun _ _ => rfl)) (pe_op op_mod (pe_callTy call_int1 (by rfl) B.int boot_int (pa_cons (pv 2) pa_nil)) (pv 3)) (fun _ _ => rfl)) (pa_cons (pe_op op_add (pv 2) pe_int) pa_nil)))
            (pg_tup rfl (pgs_cons (pg_name (i := 4) scD.nd rfl (.inl rfl)) (pgs_cons (pg_sub (pv 0) pe_str (set_dict hu)) pgs_nil))))
        (pss_cons (ps_dput hu (pv 0) pe_str (pe_op op_mod (pe_callTy call_int1 (by rfl) B.int boot_int (pa_cons (pe_op op_pow (pe_op op_add (pe_op op_add (pe_op op_mod (pe_callTy call_int1 (by rfl) B.int boot_int (pa_cons (pv 4) pa_nil)) pe_int) (pe_op op_mul pe_int (pv 2))) pe_int) pe_int) pa_nil)) (pe_op op_add (pe_op op_pow pe_int pe_int) pe_int)) rfl)
        (pss_one (ps_if (pw_and (pt_cmpR op_ge (pv 4) (pe_op op_pow pe_int pe_int) (nomark _)) (pw_and1 (pt_cmpR op_lt (pv 2) (pv 3) (nomark _)))).pt
          (pss_one (ps_dput hu (pv 0) pe_str (pe_op op_sub (pv 4) (pe_op op_pow pe_int pe_int)) rfl)) pss_nil))))) pss_nil) hB, ?_⟩
    refine ⟨_, rfl, d, _, rfl, dg_left hd, _, rfl, _, _, rfl, rfl, _, rfl, ite2 (fun _ => ?_) (fun _ => qB _ _ _ p l H hd l0 p0 (by omega) (.refl _ _))⟩
    have hlen : 0 < ns.length := List.length_pos_iff.mpr hne
    have hml : (ns.map V.int).length = ns.length := List.length_map _
    obtain ⟨z, hz⟩ : ∃ z : Int, atI (ns.map V.int) (p % (ns.map V.int).length) = some (.int z) := by
      have h1 : 0 ≤ p % (ns.map V.int).length := Int.emod_nonneg _ (by omega)
      have h2 : p % (ns.map V.int).length < (ns.map V.int).length := Int.emod_lt_of_pos _ (by omega)
      have h3 : (p % (ns.map V.int).length).toNat < ns.length := by omega
      exact ⟨ns[(p % (ns.map V.int).length).toNat], at_of (j := (p % (ns.map V.int).length).toNat) (by omega) (by rw [List.getElem?_map, List.getElem?_eq_getElem h3]; rfl)⟩
    -- place, size; cell, tape['place']
    refine ⟨_, rfl, d, _, rfl, dg_place hd, _, rfl, d, _, rfl, dg_cells hd, c, _, rfl, .inl (SqL.of hc), _, _, rfl, ?_⟩
    refine ⟨_, rfl, d, _, rfl, dg_cells hd, _, rfl, .inl ⟨_, rfl, _, rfl, _, _, rfl, rfl, (by omega), c, _, _, _, rfl, rfl, SqL.of hc, hz, _, rfl, _, _, rfl, rfl, two_line, fun t ht => ?_⟩⟩
    have htd : d ≠ t := ne_of_none hd ht
    refine ⟨t, _, rfl, SqT.of upd_same, rfl, _, _, rfl, _, _, rfl, _, rfl, d, _, rfl, dp_place (by rw [upd_ne htd]; exact hd), rfl, ?_⟩
    -- tape['left']
    have e1 := Int.emod_nonneg z (show (2147483629 : Int) ≠ 0 by decide)
    have e2 := Int.emod_lt_of_pos z (show (0 : Int) < 2147483629 by decide)
    refine ⟨_, rfl, .inl ⟨_, rfl, _, _, rfl, rfl, (by show (0 : Int) < 2147483629; decide), _, rfl, _, _, rfl, rfl, .inl ⟨by decide, by decide⟩, _, _, rfl, rfl, _, _, rfl, rfl, _, _, rfl, rfl, ⟨by decide, by decide, by omega⟩, .inl ⟨_, rfl, _, _, rfl, rfl, ⟨by decide, by decide, by decide⟩, _, _, rfl, rfl, _, _, rfl, rfl, (by show (0 : Int) < 10 ^ (50 : Int).toNat + 57; decide), _, rfl, d, _, rfl, dp_left upd_same, ?_⟩⟩⟩
    rw [upd_upd]
    have l2 : ∀ x : Int, 0 ≤ x % (10 ^ (50 : Int).toNat + 57) := fun x => Int.emod_nonneg _ (by decide)
    have of : ∀ q, Off H (L2.upd (L2.upd H t (.tup [.int z, .int (p + 1)])) d (.dK (tapeD c (p + 1) q))) d := fun q => ((Off.refl H d).new ht _).put (by rw [upd_ne htd]; exact hd) _ _
    refine ⟨_, rfl, _, _, rfl, rfl, ⟨by decide, by decide, by decide⟩, _, _, rfl, rfl, _, rfl, ite2 (fun hz18 => ?_) (fun _ => ?_)⟩
    · refine ⟨_, rfl, _, rfl, _, _, rfl, rfl, _, rfl, ite2 (fun _ => ?_) (fun _ => ?_)⟩
      · have hz18 := of_decide_eq_true hz18
        refine ⟨_, rfl, _, _, rfl, rfl, ⟨by decide, by decide, by decide⟩, _, _, rfl, rfl, _, rfl, d, _, rfl, dp_left upd_same, ?_⟩
        rw [upd_upd]
        exact qB _ _ _ (p + 1) _ _ upd_same (by omega) (by omega) (by omega) (of _)
      · exact qB _ _ _ (p + 1) _ _ upd_same (l2 _) (by omega) (by omega) (of _)
    · exact qB _ _ _ (p + 1) _ _ upd_same (l2 _) (by omega) (by omega) (of _)
end
end Ask

namespace Ask
open PySem L2
section
variable {P : Program} {w : World} {K : PySem.W.Frag} {mg : Str → Option Value} {base : Heap}
/-! ### _law_begin -/
def spBegin (K : PySem.W.Frag) : Sp := fun vs H Q _ => ∃ (a : Addr) (ns : List Int), vs = [.ref a] ∧ SqL K H a (ns.map V.int) ∧ ∀ (d : Addr) (H' : Hp), H d = none → Tape H' d 0 → Same H H' → Q (.ref d) H'
abbrev nBg : List Str := ["_law_script"]
theorem scBg : FnScope nBg ["_law_script"] (defScope sBegin) := ⟨rfl, rfl, rfl, by decide +kernel, rfl, by decide +kernel, by decide +kernel⟩
theorem merge_tape (c : Addr) (p l : Int) : mergeK [] (tapeD c p l) = tapeD c p l := by
  have e1 : putK ([] : List (Key × V)) kCells (.ref c) = [(kCells, .ref c)] := putK_new _ rfl
  have e2 : putK [(kCells, V.ref c)] kPlace (.int p) = [(kCells, .ref c), (kPlace, .int p)] := putK_new _ (by rw [valV_neg ne_cp, valV_nil])
  have e3 : putK [(kCells, V.ref c), (kPlace, V.int p)] kLeft (.int l) = tapeD c p l := putK_new _ (by rw [valV_neg ne_cl, valV_neg ne_pl, valV_nil])
  show putK (putK (putK ([] : List (Key × V)) kCells (.ref c)) kPlace (.int p)) kLeft (.int l) = _
  rw [e1, e2, e3]
theorem cut_ints (ns : List Int) (lo hi : Option Int) : ∃ ms : List Int, cutV (ns.map V.int) lo hi = ms.map V.int := by
  unfold cutV
  exact ⟨(ns.drop _).take _, by rw [List.map_take, List.map_drop]⟩
theorem ok_begin {f : Addr} {fd : FuncData} (F : Fun K "_law_begin" "_law_begin" sBegin f fd) : FnOk P w K mg base CX0 1 f fd ["_law_script"] (spBegin K) := by
  refine F.ok scBg (fun vs H Q E h => ?_) (fun cdv A outer s H vs Q E hr h => ?_)
  · obtain ⟨a, ns, rfl, _⟩ := h
    rfl
  · obtain ⟨a, ns, rfl, hs, k⟩ := h
    refine ⟨_, pss_one (ps_ret (pe_disp (pps_cons pe_str (pe_orT (pe_slice sl_list (pv 0) po_none (po_some pe_int)) (pe_one (pe_lst (pa_cons pe_int pa_nil)))) (pps_cons pe_str pe_int (pps_cons pe_str pe_int pps_nil))) rfl rfl (by intro z; cases z) (by decide))), ?_⟩
    intro d hd
    have s1 : Same H (L2.upd H d (.dK [])) := fun b o e => by rw [upd_ne (ne_of_none e hd)]; exact e
    refine ⟨_, rfl, _, rfl, a, _, rfl, s1.seq hs, fun c hc => ?_⟩
    obtain ⟨ms, em⟩ := cut_ints ns none (some 63)
    have ncd : d ≠ c := ne_of_none upd_same hc
    have s2 : ∀ o, Same H (L2.upd (L2.upd H d (.dK [])) c o) := fun o b u e => by rw [upd_ne (ne_of_none (s1 _ _ e) hc)]; exact s1 _ _ e
    have fin : ∀ (c : Addr) (ms : List Int) (H1 : Hp), ms ≠ [] → Same H H1 → H1 d = some (.dK []) → H1 c = some (.lst (ms.map V.int)) → c ≠ d → Q (.ref d) (L2.upd H1 d (.dK (mergeK [] (tapeD c 0 0)))) := fun c ms H1 hm hs1 h1 h2 hn => by
      rw [merge_tape]
      refine k d _ hd ⟨c, ms, 0, upd_same, by rw [upd_ne hn]; exact h2, hm, by omega, by omega⟩ fun b u e => ?_
      rw [upd_ne (ne_of_none e hd)]
      exact hs1 _ _ e
    rw [em]
    refine ⟨!(ms.map V.int).isEmpty, .inl ⟨_, SqL.of upd_same, rfl⟩, ?_⟩
    cases ms with
    | nil =>
      refine iteF ⟨by show 1 ≤ sizeLine; decide, fun c2 hc2 => ?_⟩
      have n2 : d ≠ c2 := ne_of_none (by rw [upd_ne ncd]; exact upd_same) hc2
      refine ⟨by rw [upd_ne n2, upd_ne ncd]; exact upd_same, tapeD c2 0 0, rfl, by show 3 ≤ 15; decide, ?_⟩
      exact fin c2 [0] _ (by intro z; cases z) (fun b u e => by rw [upd_ne (ne_of_none (s2 _ _ _ e) hc2)]; exact s2 _ _ _ e) (by rw [upd_ne n2, upd_ne ncd]; exact upd_same) upd_same n2.symm
    | cons m ms =>
      refine iteT ?_
      refine ⟨by rw [upd_ne ncd]; exact upd_same, tapeD c 0 0, rfl, by show 3 ≤ 15; decide, ?_⟩
      exact fin c (m :: ms) _ (by intro z; cases z) (s2 _) (by rw [upd_ne ncd]; exact upd_same) upd_same ncd.symm
/-! ### _law_pick -/
/-- v is a list, a tuple or a text with the items xs -/
def Seq3 (K : PySem.W.Frag) (H : Hp) (v : V) (xs : List V) : Prop :=
  (∃ a, v = .ref a ∧ SqL K H a xs) ∨ (∃ a, v = .ref a ∧ SqT K H a xs) ∨ ∃ z : Str, v = .str z ∧ z.length ≤ sizeLine ∧ xs = z.cps.toList.map fun c => V.str ⟨#[c]⟩
theorem Off.seqL {H H' : Hp} {d a : Addr} {kvs : List (Key × V)} {xs : List V} (o : Off H H' d) (hd : H d = some (.dK kvs)) (h : SqL K H a xs) : SqL K H' a xs := by
  rcases h with (h | ⟨u, h⟩) | h
  · exact .inl (.inl (o _ _ h (ne_of h hd (by intro z; cases z))))
  · exact .inl (.inr ⟨u, o _ _ h (ne_of h hd (by intro z; cases z))⟩)
  · exact .inr h
theorem Off.seqT {H H' : Hp} {d a : Addr} {kvs : List (Key × V)} {xs : List V} (o : Off H H' d) (hd : H d = some (.dK kvs)) (h : SqT K H a xs) : SqT K H' a xs := by
  rcases h with (h | ⟨u, h⟩) | h
  · exact .inl (.inl (o _ _ h (ne_of h hd (by intro z; cases z))))
  · exact .inl (.inr ⟨u, o _ _ h (ne_of h hd (by intro z; cases z))⟩)
  · exact .inr h
theorem Seq3.off {H H' : Hp} {d : Addr} {kvs : List (Key × V)} {v : V} {xs : List V} (h : Seq3 K H v xs) (o : Off H H' d) (hd : H d = some (.dK kvs)) : Seq3 K H' v xs := by
  rcases h with ⟨a, e, h⟩ | ⟨a, e, h⟩ | h
  · exact .inl ⟨a, e, o.seqL hd h⟩
  · exact .inr (.inl ⟨a, e, o.seqT hd h⟩)
  · exact .inr (.inr h)
theorem Seq3.len {H : Hp} {v : V} {xs : List V} (h : Seq3 K H v xs) : LenV K v H xs.length := by
  rcases h with ⟨a, rfl, h⟩ | ⟨a, rfl, h⟩ | ⟨z, rfl, hz, rfl⟩
  · exact .inl ⟨xs, h, rfl⟩
  · exact .inr ⟨xs, h, rfl⟩
  · exact ⟨hz, by rw [List.length_map]; rfl⟩
theorem atI_map {α β : Type} (g : α → β) (l : List α) (i : Int) : atI (l.map g) i = (atI l i).map g := by
  unfold atI
  rw [List.length_map]
  cases ixN l.length i with
  | none => rfl
  | some j => simp
theorem Seq3.ix {H : Hp} {v y : V} {xs : List V} {i : Int} {Q : VK} (h : Seq3 K H v xs) (e : atI xs i = some y) (q : Q y H) : rIx K v (.int i) H Q := by
  rcases h with ⟨a, rfl, h⟩ | ⟨a, rfl, h⟩ | ⟨z, rfl, hz, rfl⟩
  · exact .inl ⟨a, xs, i, y, rfl, rfl, h, e, q⟩
  · exact .inr (.inl ⟨a, xs, i, y, rfl, rfl, h, e, q⟩)
  · rw [atI_map] at e
    obtain ⟨c, e1, rfl⟩ := Option.map_eq_some_iff.mp e
    exact .inr (.inr ⟨z, i, c, rfl, rfl, hz, e1, q⟩)
def spPick (K : PySem.W.Frag) : Sp := fun vs H Q _ => ∃ (d : Addr) (v : V) (xs : List V) (p : Int), vs = [.ref d, v] ∧ Tape H d p ∧ p < 1000000000 ∧ Seq3 K H v xs ∧ xs ≠ [] ∧ xs.length < 1073741824 ∧
  ∀ (x : V) (p' : Int) (H' : Hp), x ∈ xs → Tape H' d p' → p' ≤ p + 1 → Off H H' d → Q x H'
abbrev nPk : List Str := ["_law_tape", "_law_items"]
theorem scPk : FnScope nPk ["_law_tape", "_law_items"] (defScope sPick) := ⟨rfl, rfl, rfl, by decide +kernel, rfl, by decide +kernel, by decide +kernel⟩
theorem ok_pick {f : Addr} {fd : FuncData} (F : Fun K "_law_pick" "_law_pick" sPick f fd) (B : Blt mg) (DD : Dn P w K mg base 1 "_law_draw" ["_law_tape", "_law_many"] spDraw) : FnOk P w K mg base CX0 2 f fd ["_law_tape", "_law_items"] (spPick K) := by
  refine F.ok scPk (fun vs H Q E h => ?_) (fun cdv A outer s H vs Q E hr h => ?_)
  · obtain ⟨d, v, xs, p, rfl, _⟩ := h
    rfl
  · obtain ⟨d, v, xs, p, rfl, T, p1, S, hne, hl, k⟩ := h
    have hlen : 0 < xs.length := List.length_pos_iff.mpr hne
    refine ⟨_, pss_one (ps_ret (pe_ix ix_seq (pv 1) (pe_dn DD hr (by rfl) (pa_cons (pv 0) (pa_cons (pe_callB call_len (by rfl) B.len PySem.boot_len (pa_cons (pv 1) pa_nil)) pa_nil))) (fun _ _ => rfl))), ?_⟩
    refine ⟨_, rfl, _, rfl, _, rfl, _, _, rfl, S.len, d, _, p, rfl, by omega, by omega, T, p1, fun n p' H' n0 n1 T' hp o => ?_⟩
    obtain ⟨kvs, hd⟩ := T.at
    have h3 : n.toNat < xs.length := by omega
    exact (S.off o hd).ix (at_of (j := n.toNat) (by omega) (List.getElem?_eq_getElem h3)) (k _ p' H' (List.getElem_mem h3) T' hp o)
end
end Ask
namespace Ask
open PySem L2 PySem.Spec PyProof.Rows PySem.AskX
/-! ### the classes of the errors, checked in bulk -/
def tailOf : Nat → List Value
  | 0 => [.type "ValueError", .type "Exception", .type "BaseException", .type "object"]
  | 1 => [.type "LookupError", .type "Exception", .type "BaseException", .type "object"]
  | 2 => [.type "KeyError", .type "LookupError", .type "Exception", .type "BaseException", .type "object"]
  | 3 => [.type "ArithmeticError", .type "Exception", .type "BaseException", .type "object"]
  | _ => [.type "RuntimeError", .type "Exception", .type "BaseException", .type "object"]
def madeOf : Nat → String × String
  | 0 => ("ValueError", "ValueError.__new__")
  | 1 => ("LookupError", "LookupError.__new__")
  | 2 => ("LookupError", "LookupError.__new__")
  | 3 => ("ArithmeticError", "ArithmeticError.__new__")
  | _ => ("RuntimeError", "RuntimeError.__new__")
theorem tail_of : ∀ g : Nat, Tail (tailOf g) (madeOf g).1 (madeOf g).2
  | 0 => tail_V
  | 1 => tail_L
  | 2 => tail_K
  | 3 => tail_A
  | _ + 4 => tail_R
/-- the kinds of Python's own of which an error of the g-th one is -/
def shapeB (C : Addr) (T : List Value) (newId : String) : Obj → Bool
  | ⟨.type "type", _, .cls cd, sl⟩ => decide (cd.mro = .ref C :: T) && (cd.hasDict && (!cd.hasDel && match sl with
    | ⟨[_, _, _, _, some (.builtin n), _]⟩ => decide (n = newId)
    | _ => false))
  | _ => false
theorem shape_of {C : Addr} {T : List Value} {newId : String} : ∀ {o : Obj}, shapeB C T newId o = true → ∃ nm q N bs sn sub ab col dd k0 k1 k2 k3 k5, o = excClassObj nm q C N bs T true sn sub ab col dd k0 k1 k2 k3 k5 newId := by
  intro o h
  unfold shapeB at h
  split at h
  · rename_i dd cd sl
    obtain ⟨c1, c2, c3, c4, c5, c6, c7, c8, c9, c10, c11⟩ := cd
    obtain ⟨h1, h⟩ := Bool.and_eq_true_iff.mp h
    obtain ⟨h2, h⟩ := Bool.and_eq_true_iff.mp h
    obtain ⟨h3, h⟩ := Bool.and_eq_true_iff.mp h
    have e1 : c3 = .ref C :: T := of_decide_eq_true h1
    have e2 : c6 = true := h2
    have e3 : c11 = false := by simpa using h3
    subst e1 e2 e3
    split at h
    · rename_i k0 k1 k2 k3 n k5 _ _ _
      have e4 : n = newId := of_decide_eq_true h
      subst e4
      exact ⟨c1, c5, c4, c2, c7, c8, c9, c10, dd, k0, k1, k2, k3, k5, rfl⟩
    · cases h
  · cases h
def exB (K : PySem.W.Frag) (C : Addr) : Bool := decide (PySem.W.findIn K (.ref C) "__class__" = some (some (.builtin "object.__class__"))) && (decide (PySem.W.specialIn K (.builtin "object.__class__") "__get__" = some (some (.builtin "getset_descriptor.__get__"))) &&
  (decide (PySem.W.takesIn K (.builtin "object.__class__") = some true) && decide (PySem.W.mroIn K C (.type "object") = some true)))
def erB (K : PySem.W.Frag) (C : Addr) (g : Nat) : Bool := ((K.lookup C).any (shapeB C (tailOf g) (madeOf g).2)) && (decide (PySem.W.findIn K (.ref C) "__setattr__" = some (some (.builtin "object.__setattr__"))) && (PySem.W.keepIn K (.ref C) && (xfB K C && exB K C)))
structure Er (K : PySem.W.Frag) (C : Addr) (g : Nat) : Prop where
  er : ErC K C (tailOf g) (madeOf g).1 (madeOf g).2
  ea : ErA K C
theorem erB_ok {K : PySem.W.Frag} {C : Addr} {g : Nat} (h : erB K C g = true) : Er K C g := by
  obtain ⟨h1, h⟩ := Bool.and_eq_true_iff.mp h
  obtain ⟨h2, h⟩ := Bool.and_eq_true_iff.mp h
  obtain ⟨h3, h⟩ := Bool.and_eq_true_iff.mp h
  obtain ⟨h4, h5⟩ := Bool.and_eq_true_iff.mp h
  obtain ⟨o, ho, hs⟩ := (Option.any_eq_true_iff_get _ _).mp h1 |> fun ⟨a, b⟩ => (⟨_, (Option.some_get a).symm, b⟩ : ∃ o, K.lookup C = some o ∧ shapeB C (tailOf g) (madeOf g).2 o = true)
  obtain ⟨nm, q, N, bs, sn, sub, ab, col, dd, k0, k1, k2, k3, k5, eo⟩ := shape_of hs
  have X := xfB_ok h4
  obtain ⟨x1, h5⟩ := Bool.and_eq_true_iff.mp h5
  obtain ⟨x2, h5⟩ := Bool.and_eq_true_iff.mp h5
  obtain ⟨x3, x4⟩ := Bool.and_eq_true_iff.mp h5
  exact ⟨⟨⟨nm, q, N, bs, sn, sub, ab, col, dd, k0, k1, k2, k3, k5, ho.trans (congrArg some eo)⟩, tail_of g, of_decide_eq_true h2, h3⟩,
    ⟨X, X.ga, X.gg, X.exC, X.hdC, of_decide_eq_true x1, of_decide_eq_true x2, of_decide_eq_true x3, of_decide_eq_true x4⟩⟩
/-! ### their __init__ -/
def initOf (i : Nat) : Stmt := match top i with
  | .ClassDef _ _ _ body _ _ _ _ _ _ _ => body.headD (.Pass ⟨0, 0, 0, 0⟩)
  | s => s
def spI1 (K : PySem.W.Frag) (f : Str) : Sp := fun xs H Q _ => ∃ (a C : Addr) (y : V), xs = [.ref a, y] ∧ ErrC K C ∧ PySem.W.findIn K (.ref C) f = some none ∧ H a = some (exo a C none) ∧ ∀ dx, H dx = none → dx ≠ a → Q .non (L2.upd (L2.upd H dx (exd dx [(f, y)])) a (exo a C (some dx)))
def spI2 (K : PySem.W.Frag) (f g : Str) : Sp := fun xs H Q _ => ∃ (a C : Addr) (y z : V), xs = [.ref a, y, z] ∧ ErrC K C ∧ PySem.W.findIn K (.ref C) f = some none ∧ PySem.W.findIn K (.ref C) g = some none ∧ H a = some (exo a C none) ∧
  ∀ dx, H dx = none → dx ≠ a → Q .non (L2.upd (L2.upd (L2.upd H dx (exd dx [(f, y)])) a (exo a C (some dx))) dx (exd dx [(g, z), (f, y)]))
section
variable {P : Program} {w : World} {K : PySem.W.Frag} {mg : Str → Option Value} {base : Heap}
theorem ok_init1 {f qual : Str} {st : Stmt} {fI : Addr} {fd : FuncData} {p1 p2 p3 p4 : Pos} (F : Fun K "__init__" qual st fI fd) (S : FnScope ["self", f] ["self", f] (defScope st)) (hb : defBody st = [.Assign [.Attribute (.Name "self" p1) f p2] (.Name f p3) p4])
    (v1 : Vis (defScope st) "self") (v2 : Vis (defScope st) f) (d1 : (f == ("__debug__" : Str)) = false) (d2 : (f == ("__classdict__" : Str)) = false) : FnOk P w K mg base CX0 1 fI fd ["self", f] (spI1 K f) := by
  refine F.ok S (fun vs H Q E h => ?_) (fun cdv A outer s H vs Q E hr h => ?_)
  · obtain ⟨a, C, y, rfl, _⟩ := h
    rfl
  · obtain ⟨a, C, y, rfl, e1, e2, e3, k⟩ := h
    refine ⟨_, by rw [hb]; exact pss_one (ps_est (pe_var (i := 0) rfl v1) (pe_var (i := 1) rfl v2 d1 d2)), ?_⟩
    exact ⟨_, rfl, _, rfl, a, C, rfl, e1, e2, .inl ⟨e3, k⟩⟩
theorem ok_init2 {f g qual : Str} {st : Stmt} {fI : Addr} {fd : FuncData} {p1 p2 p3 p4 q1 q2 q3 q4 : Pos} (F : Fun K "__init__" qual st fI fd) (S : FnScope ["self", f, g] ["self", f, g] (defScope st))
    (hb : defBody st = [.Assign [.Attribute (.Name "self" p1) f p2] (.Name f p3) p4, .Assign [.Attribute (.Name "self" q1) g q2] (.Name g q3) q4])
    (v1 : Vis (defScope st) "self") (v2 : Vis (defScope st) f) (v3 : Vis (defScope st) g) (d1 : (f == ("__debug__" : Str)) = false) (d2 : (f == ("__classdict__" : Str)) = false) (d3 : (g == ("__debug__" : Str)) = false) (d4 : (g == ("__classdict__" : Str)) = false) : FnOk P w K mg base CX0 1 fI fd ["self", f, g] (spI2 K f g) := by
  refine F.ok S (fun vs H Q E h => ?_) (fun cdv A outer s H vs Q E hr h => ?_)
  · obtain ⟨a, C, y, z, rfl, _⟩ := h
    rfl
  · obtain ⟨a, C, y, z, rfl, e1, e2, e4, e3, k⟩ := h
    refine ⟨_, by rw [hb]; exact pss_cons (ps_est (pe_var (i := 0) rfl v1) (pe_var (i := 1) rfl v2 d1 d2)) (pss_one (ps_est (pe_var (i := 0) rfl v1) (pe_var (i := 2) rfl v3 d3 d4))), ?_⟩
    refine ⟨_, rfl, _, rfl, a, C, rfl, e1, e2, .inl ⟨e3, fun dx n ne => ?_⟩⟩
    exact ⟨_, rfl, _, rfl, a, C, rfl, e1, e4, .inr ⟨dx, [(f, y)], upd_same, (upd_ne ne).trans upd_same, (by decide : 1 ≤ 900), k dx n ne⟩⟩
end
end Ask
namespace Ask
open PySem L2 PySem.Spec PyProof.Rows PySem.AskX LamX NdefX
theorem PE.imp {X : Cx} {e : Expr} {t t' : TE} (h : PE X e t) (i : ∀ σ H Q, t' σ H Q → t σ H Q) : PE X e t' := ⟨fun pins s σ H Q I q => h.run pins s σ H Q I (i σ H Q q)⟩
/-! ### what grows: new things, and code objects in their tables -/
structure Grow (T : List (Addr × Str)) (H H1 : Hp) : Prop where
  ext : ExtN H H1
  new : ∀ b, H1 b = none → H b = none
  tabs : Tabs T H1
section
variable {T : List (Addr × Str)} {H H1 H2 : Hp} {a : Addr}
theorem Grow.refl (t : Tabs T H) : Grow T H H := ⟨.refl H, fun _ h => h, t⟩
theorem Grow.trans (g : Grow T H H1) (k : Grow T H1 H2) : Grow T H H2 := ⟨g.ext.trans k.ext, fun b h => g.new b (k.new b h), k.tabs⟩
theorem Grow.same (t : Tabs T H) (e : ∀ b o, H b = some o → H1 b = some o) (n : ∀ b, H1 b = none → H b = none) : Grow T H H1 := ⟨.of e, n, t.ext e⟩
theorem Grow.put (t : Tabs T H) (h : H a = none) (o : HO) : Grow T H (L2.upd H a o) := .same t (fun b u e => (upd_ne (ne_of_none e h)).trans e) (fun b e => upd_none e)
end
/-! ### an item of the lists of errors -/
/-- the error e is of the class C, its fields stand behind it -/
def ErAt (K : PySem.W.Frag) (H : Hp) (e C : Addr) (d : Option Addr) : Prop := ErA K C ∧ H e = some (exo e C d) ∧ ∀ dx, d = some dx → ∃ fs, H dx = some (exd dx fs)
structure Item (P : Program) (w : World) (K : PySem.W.Frag) (mg : Str → Option Value) (base : Heap) (cs : List Addr) (H : Hp) (t : Addr) (j : Nat) (vs : List V) : Prop where
  ex : ∃ (e b f C : Addr) (d : Option Addr) (F : LF) (sp : Sp), H t = some (.tup [.ref e, .ref b, .ref f]) ∧ cs[j]? = some C ∧ ErAt K H e C d ∧ H b = some (.lst vs) ∧ H f = some (LmO f F) ∧ H F.c = some (LamX.CodeO F.c F.qual) ∧ LOk P w K mg base 2 f F ["_law_e"] sp ∧
    ∀ H1 Q, ExtN H H1 → (∀ r, H1 r = none → Q (.ref r) (L2.upd H1 r (.lst vs))) → sp [.ref e] H1 Q E0
theorem lm_ne {f : Addr} {F : LF} : ∀ ps, LmO f F ≠ .tbl ps := fun _ z => nomatch z
theorem exo_ne {e C : Addr} {d : Option Addr} : ∀ ps, exo e C d ≠ .tbl ps := fun _ z => nomatch z
theorem exd_ne {e : Addr} {fs : List (Str × V)} : ∀ ps, exd e fs ≠ .tbl ps := fun _ z => nomatch z
theorem ErAt.ext {K : PySem.W.Frag} {H H1 : Hp} {e C : Addr} {d : Option Addr} (h : ErAt K H e C d) (x : ExtN H H1) : ErAt K H1 e C d :=
  ⟨h.1, x _ _ h.2.1 exo_ne, fun dx z => let ⟨fs, q⟩ := h.2.2 dx z; ⟨fs, x _ _ q exd_ne⟩⟩
theorem Item.ext {P : Program} {w : World} {K : PySem.W.Frag} {mg : Str → Option Value} {base : Heap} {cs : List Addr} {H H1 : Hp} {t : Addr} {j : Nat} {vs : List V} (h : Item P w K mg base cs H t j vs) (x : ExtN H H1) : Item P w K mg base cs H1 t j vs := by
  obtain ⟨e, b, f, C, d, F, sp, h1, h2, h3, h4, h5, h6, h7, h8⟩ := h.ex
  exact ⟨e, b, f, C, d, F, sp, x _ _ h1 (fun _ z => nomatch z), h2, h3.ext x, x _ _ h4 (fun _ z => nomatch z), x _ _ h5 lm_ne, x _ _ h6 (fun _ z => nomatch z), h7, fun H2 Q y q => h8 H2 Q (x.trans y) q⟩
/-! ### the lambdas that ask for the fields -/
abbrev lamArgs (r : Pos) : Arguments := { posonlyargs := [], args := [{ arg := "_law_e", annotation := none, pos := r }], vararg := none, kwonlyargs := [], kw_defaults := [], kwarg := none, defaults := [] }
abbrev lamScope : Scope := { kind := .function, names := [("_law_e", .local)], isGenerator := false, isCoroutine := false, more := [] }
def spG1 (K : PySem.W.Frag) (f : Str) : Sp := fun xs H Q _ => ∃ (a C dx : Addr) (fs : List (Str × V)) (v : V), xs = [.ref a] ∧ ErA K C ∧ PySem.W.findIn K (.ref C) f = some none ∧ H a = some (exo a C (some dx)) ∧ H dx = some (exd dx fs) ∧ fs.lookup f = some v ∧ ∀ r, H r = none → Q (.ref r) (L2.upd H r (.lst [v]))
def spG2 (K : PySem.W.Frag) (f g : Str) : Sp := fun xs H Q _ => ∃ (a C dx : Addr) (fs : List (Str × V)) (v u : V), xs = [.ref a] ∧ ErA K C ∧ PySem.W.findIn K (.ref C) f = some none ∧ PySem.W.findIn K (.ref C) g = some none ∧ H a = some (exo a C (some dx)) ∧ H dx = some (exd dx fs) ∧ fs.lookup f = some v ∧ fs.lookup g = some u ∧ ∀ r, H r = none → Q (.ref r) (L2.upd H r (.lst [v, u]))
def spG0 : Sp := fun xs H Q _ => ∃ a, xs = [.ref a] ∧ ∀ r, H r = none → Q (.ref r) (L2.upd H r (.lst []))
section
variable {P : Program} {w : World} {K : PySem.W.Frag} {mg : Str → Option Value} {base : Heap} {fa c' : Addr} {qual f g : Str} {r q6 q7 q8 q9 q10 : Pos}
theorem lamS : NScope ["_law_e"] ["_law_e"] [] lamScope := ⟨rfl, rfl, rfl, by decide, rfl, by decide +kernel, by decide +kernel, by decide +kernel, by decide⟩
theorem lok_get1 : LOk P w K mg base 2 fa ⟨qual, lamArgs r, .List [.Attribute (.Name "_law_e" q6) f q7] q8, lamScope, c'⟩ ["_law_e"] (spG1 K f) := by
  refine lok_of lamS (fun pm ctv us hl => match us, hl with | [_], _ => rfl) (fun vs H Q E h => ?_) (fun A outer s H vs Q hr h => ?_)
  · obtain ⟨a, C, dx, fs, v, rfl, _⟩ := h
    rfl
  · obtain ⟨a, C, dx, fs, v, rfl, e1, e2, e3, e4, e5, k⟩ := h
    refine ⟨_, pe_lst (pa_cons (pe_ef (C := C) (pv 0)) pa_nil), ?_⟩
    exact ⟨_, rfl, a, C, dx, fs, v, rfl, e1, e2, e3, e4, e5, (by decide : 1 ≤ sizeLine), k⟩
theorem lok_get2 : LOk P w K mg base 2 fa ⟨qual, lamArgs r, .List [.Attribute (.Name "_law_e" q6) f q7, .Attribute (.Name "_law_e" q9) g q10] q8, lamScope, c'⟩ ["_law_e"] (spG2 K f g) := by
  refine lok_of lamS (fun pm ctv us hl => match us, hl with | [_], _ => rfl) (fun vs H Q E h => ?_) (fun A outer s H vs Q hr h => ?_)
  · obtain ⟨a, C, dx, fs, v, u, rfl, _⟩ := h
    rfl
  · obtain ⟨a, C, dx, fs, v, u, rfl, e1, e2, e6, e3, e4, e5, e7, k⟩ := h
    refine ⟨_, pe_lst (pa_cons (pe_ef (C := C) (pv 0)) (pa_cons (pe_ef (C := C) (pv 0)) pa_nil)), ?_⟩
    exact ⟨_, rfl, a, C, dx, fs, v, rfl, e1, e2, e3, e4, e5, _, rfl, a, C, dx, fs, u, rfl, e1, e6, e3, e4, e7, (by decide : 2 ≤ sizeLine), k⟩
theorem lok_get0 : LOk P w K mg base 2 fa ⟨qual, lamArgs r, .List [] q8, lamScope, c'⟩ ["_law_e"] spG0 := by
  refine lok_of lamS (fun pm ctv us hl => match us, hl with | [_], _ => rfl) (fun vs H Q E h => ?_) (fun A outer s H vs Q hr h => ?_)
  · obtain ⟨a, rfl, _⟩ := h
    rfl
  · obtain ⟨a, rfl, k⟩ := h
    exact ⟨_, pe_lst pa_nil, (by decide : 0 ≤ sizeLine), k⟩
end
end Ask
namespace Ask
open PySem L2 PySem.Spec PyProof.Rows PySem.AskX LamX NdefX
/-! ### what each class says -/
structure One (P : Program) (w : World) (K : PySem.W.Frag) (mg : Str → Option Value) (base : Heap) (cs : List Addr) (j g : Nat) (x f : Str) : Prop where
  ex : ∃ (C fI : Addr) (fd : FuncData), cs[j]? = some C ∧ mg x = some (.ref C) ∧ Er K C g ∧ PySem.W.findIn K (.ref C) "__init__" = some (some (.ref fI)) ∧ PySem.W.typeIn K (.ref fI) = some (.type "function") ∧ Binds K fd ["self", f] [] ∧ FnOk P w K mg base CX0 1 fI fd ["self", f] (spI1 K f) ∧ PySem.W.findIn K (.ref C) f = some none
structure Two (P : Program) (w : World) (K : PySem.W.Frag) (mg : Str → Option Value) (base : Heap) (cs : List Addr) (j g : Nat) (x f h : Str) : Prop where
  ex : ∃ (C fI : Addr) (fd : FuncData), cs[j]? = some C ∧ mg x = some (.ref C) ∧ Er K C g ∧ PySem.W.findIn K (.ref C) "__init__" = some (some (.ref fI)) ∧ PySem.W.typeIn K (.ref fI) = some (.type "function") ∧ Binds K fd ["self", f, h] [] ∧ FnOk P w K mg base CX0 1 fI fd ["self", f, h] (spI2 K f h) ∧ PySem.W.findIn K (.ref C) f = some none ∧ PySem.W.findIn K (.ref C) h = some none
structure Nul (K : PySem.W.Frag) (mg : Str → Option Value) (cs : List Addr) (j g : Nat) (x : Str) : Prop where
  ex : ∃ (C : Addr) (bm : List Value), cs[j]? = some C ∧ mg x = some (.ref C) ∧ Er K C g ∧ PySem.W.excIn K C bm (madeOf g).2 = true ∧ ∃ initId, ExcBaseFacts (madeOf g).1 (madeOf g).2 initId bm
/-- where the lambdas of this def are kept -/
structure Mk (X : Cx) (T : List (Addr × Str)) : Prop where
  ex : ∃ c Pt : Addr, TabB X.base X.mg c Pt ∧ X.env.code = .ref c ∧ (Pt, X.env.qual ++ "<lambda>") ∈ T ∧ ∀ p ∈ T, p.1 = Pt → p.2 = X.env.qual ++ "<lambda>"
def tItem (X : Cx) (T : List (Addr × Str)) (cs : List Addr) (j : Nat) (vs : L2.St → Option (List V)) : TE := fun σ H Q => ∃ ys, vs σ = some ys ∧ Tabs T H ∧ ∀ t H1, Grow T H H1 → Item X.prog X.w X.K X.mg X.base cs H1 t j ys → Q (.ref t) H1
def at1 (i : Nat) : L2.St → Option (List V) := fun σ => (σ[i]?.join).map fun y => [y]
def at2 (i k : Nat) : L2.St → Option (List V) := fun σ => (σ[i]?.join).bind fun y => (σ[k]?.join).map fun z => [y, z]
theorem at1_of {i : Nat} {σ : L2.St} {ys : List V} (h : at1 i σ = some ys) : ∃ y, σ[i]? = some (some y) ∧ ys = [y] := by
  unfold at1 at h
  cases e : σ[i]? with
  | none => rw [e] at h; cases h
  | some o =>
    rw [e] at h
    cases o with
    | none => cases h
    | some y => cases h; exact ⟨y, rfl, rfl⟩
theorem at2_of {i k : Nat} {σ : L2.St} {ys : List V} (h : at2 i k σ = some ys) : ∃ y z, σ[i]? = some (some y) ∧ σ[k]? = some (some z) ∧ ys = [y, z] := by
  unfold at2 at h
  cases e : σ[i]? with
  | none => rw [e] at h; cases h
  | some o =>
    rw [e] at h
    cases o with
    | none => cases h
    | some y =>
      cases e2 : σ[k]? with
      | none => rw [e2] at h; cases h
      | some o2 =>
        rw [e2] at h
        cases o2 with
        | none => cases h
        | some z => cases h; exact ⟨y, z, rfl, rfl, rfl⟩
section
variable {X : Cx} {T : List (Addr × Str)} {cs : List Addr} {j g i k : Nat} {x f h : Str} {q1 q2 q2' q3 q4 q4' q5 q6 q6' q7 q7' q8 q9 q11 r : Pos} {q10 : Nat}
theorem pe_item1 (O : One X.prog X.w X.K X.mg X.base cs j g x f) (M : Mk X T) (hr : Room 2 X.A) (hg : Gl X x) (hN : X.N[0]? = some ("_law_x" : Str)) (hv : Vis X.env.scope "_law_x") (hdb : (x == ("__debug__" : Str)) = false) :
    PE X (.Tuple [.Call (.Name x q1) [.Name "_law_x" q2] [] q3, .List [.Name "_law_x" q4] q5, .Lambda (lamArgs r) (.List [.Attribute (.Name "_law_e" q6) f q7] q8) lamScope q9] q10 q11) (tItem X T cs j (at1 0)) := by
  obtain ⟨C, fI, fd, e1, e2, E, e3, e4, e5, e6, e7⟩ := O.ex
  obtain ⟨c, Pt, TB, hc, hm, hu⟩ := M.ex
  refine PE.imp (pe_tup (pa_cons (pe_err ⟨_, _, _, E.er⟩ e3 e4 e6 hr e5 hg e2 (pa_cons (pe_var hN hv) pa_nil) hdb) (pa_cons (pe_lst (pa_cons (pe_var hN hv) pa_nil)) (pa_cons (pe_lambda TB hc hm hu (by rfl) (by decide +kernel) (by rfl)) pa_nil)))) fun σ H Q q => ?_
  obtain ⟨ys, hy0, tT, q⟩ := q
  obtain ⟨y, hy, rfl⟩ := at1_of hy0
  refine ⟨y, hy, (by decide : 1 ≤ 1000), fun a na => ⟨a, C, y, rfl, ⟨_, _, _, E.er⟩, e7, upd_same, fun dx nd ne => ⟨rfl, y, hy, (by decide : 1 ≤ sizeLine), fun b nb => ?_⟩⟩⟩
  have na' : H dx = none := by rw [upd_ne ne] at nd; exact nd
  have G1 : Grow T H (L2.upd (L2.upd (L2.upd H a (exo a C none)) dx (exd dx [(f, y)])) a (exo a C (some dx))) := .same tT (fun b o e => (upd_ne (ne_of_none e na)).trans ((upd_ne (ne_of_none e na')).trans ((upd_ne (ne_of_none e na)).trans e))) (fun b e => upd_none (upd_none (upd_none e)))
  have G2 := G1.trans (.put G1.tabs nb (.lst [y]))
  refine ⟨G2.tabs, fun fl c' H3 x3 n3 t3 f3 l3 k3 => ⟨(by decide : 3 ≤ sizeLine), fun t nt => ?_⟩⟩
  have G3 := G2.trans ⟨x3, n3, t3⟩
  have G4 := G3.trans (.put G3.tabs nt (.tup [.ref a, .ref b, .ref fl]))
  have z4 : ∀ {b o}, H3 b = some o → (L2.upd H3 t (.tup [.ref a, .ref b, .ref fl])) b = some o := fun e => (upd_ne (ne_of_none e nt)).trans e
  have ha : H3 a = some (exo a C (some dx)) := x3 _ _ ((upd_ne (ne_of_none upd_same nb)).trans upd_same) exo_ne
  have hd : H3 dx = some (exd dx [(f, y)]) := by
    have e0 : (L2.upd (L2.upd (L2.upd H a (exo a C none)) dx (exd dx [(f, y)])) a (exo a C (some dx))) dx = some (exd dx [(f, y)]) := (upd_ne ne).trans upd_same
    exact x3 _ _ ((upd_ne (ne_of_none e0 nb)).trans e0) exd_ne
  have hb : H3 b = some (.lst [y]) := x3 _ _ upd_same (fun _ z => nomatch z)
  refine q t _ G4 ⟨a, b, fl, C, some dx, ⟨X.env.qual ++ "<lambda>", lamArgs r, .List [.Attribute (.Name "_law_e" q6) f q7] q8, lamScope, c'⟩, spG1 X.K f, ?_, e1, ⟨E.ea, ?_, ?_⟩, ?_, ?_, ?_, lok_get1, ?_⟩
  · exact upd_same
  · exact (upd_ne (ne_of_none ha nt)).trans ha
  · intro dx' z
    cases z
    exact ⟨_, (upd_ne (ne_of_none hd nt)).trans hd⟩
  · exact (upd_ne (ne_of_none hb nt)).trans hb
  · exact (upd_ne (ne_of_none l3 nt)).trans l3
  · exact (upd_ne (ne_of_none k3 nt)).trans k3
  · intro H5 Q5 x5 q5
    exact ⟨a, C, dx, _, y, rfl, E.ea, e7, x5 _ _ ((upd_ne (ne_of_none ha nt)).trans ha) exo_ne, x5 _ _ ((upd_ne (ne_of_none hd nt)).trans hd) exd_ne, by simp, q5⟩
theorem pe_item2 (O : Two X.prog X.w X.K X.mg X.base cs j g x f h) (hfh : (h == f) = false) (M : Mk X T) (hr : Room 2 X.A) (hg : Gl X x) (hN : X.N[0]? = some ("_law_x" : Str)) (hv : Vis X.env.scope "_law_x") (hN2 : X.N[1]? = some ("_law_y" : Str)) (hv2 : Vis X.env.scope "_law_y") (hdb : (x == ("__debug__" : Str)) = false) :
    PE X (.Tuple [.Call (.Name x q1) [.Name "_law_x" q2, .Name "_law_y" q2'] [] q3, .List [.Name "_law_x" q4, .Name "_law_y" q4'] q5, .Lambda (lamArgs r) (.List [.Attribute (.Name "_law_e" q6) f q7, .Attribute (.Name "_law_e" q6') h q7'] q8) lamScope q9] q10 q11) (tItem X T cs j (at2 0 1)) := by
  obtain ⟨C, fI, fd, e1, e2, E, e3, e4, e5, e6, e7, e8⟩ := O.ex
  obtain ⟨c, Pt, TB, hc, hm, hu⟩ := M.ex
  refine PE.imp (pe_tup (pa_cons (pe_err ⟨_, _, _, E.er⟩ e3 e4 e6 hr e5 hg e2 (pa_cons (pe_var hN hv) (pa_cons (pe_var hN2 hv2) pa_nil)) hdb) (pa_cons (pe_lst (pa_cons (pe_var hN hv) (pa_cons (pe_var hN2 hv2) pa_nil))) (pa_cons (pe_lambda TB hc hm hu (by rfl) (by decide +kernel) (by rfl)) pa_nil)))) fun σ H Q q => ?_
  obtain ⟨ys, hy0, tT, q⟩ := q
  obtain ⟨y, z, hy, hz, rfl⟩ := at2_of hy0
  refine ⟨y, hy, z, hz, (by decide : 2 ≤ 1000), fun a na => ⟨a, C, y, z, rfl, ⟨_, _, _, E.er⟩, e7, e8, upd_same, fun dx nd ne => ⟨rfl, y, hy, z, hz, (by decide : 2 ≤ sizeLine), fun b nb => ?_⟩⟩⟩
  have na' : H dx = none := by rw [upd_ne ne] at nd; exact nd
  have G1 : Grow T H (L2.upd (L2.upd (L2.upd (L2.upd H a (exo a C none)) dx (exd dx [(f, y)])) a (exo a C (some dx))) dx (exd dx [(h, z), (f, y)])) := .same tT (fun b o e => (upd_ne (ne_of_none e na')).trans ((upd_ne (ne_of_none e na)).trans ((upd_ne (ne_of_none e na')).trans ((upd_ne (ne_of_none e na)).trans e)))) (fun b e => upd_none (upd_none (upd_none (upd_none e))))
  have G2 := G1.trans (.put G1.tabs nb (.lst [y, z]))
  refine ⟨G2.tabs, fun fl c' H3 x3 n3 t3 f3 l3 k3 => ⟨(by decide : 3 ≤ sizeLine), fun t nt => ?_⟩⟩
  have G3 := G2.trans ⟨x3, n3, t3⟩
  have G4 := G3.trans (.put G3.tabs nt (.tup [.ref a, .ref b, .ref fl]))
  have e0 : (L2.upd (L2.upd (L2.upd (L2.upd H a (exo a C none)) dx (exd dx [(f, y)])) a (exo a C (some dx))) dx (exd dx [(h, z), (f, y)])) a = some (exo a C (some dx)) := (upd_ne (fun e => ne e.symm)).trans upd_same
  have ha : H3 a = some (exo a C (some dx)) := x3 _ _ ((upd_ne (ne_of_none e0 nb)).trans e0) exo_ne
  have hd : H3 dx = some (exd dx [(h, z), (f, y)]) := x3 _ _ ((upd_ne (ne_of_none upd_same nb)).trans upd_same) exd_ne
  have hb : H3 b = some (.lst [y, z]) := x3 _ _ upd_same (fun _ z => nomatch z)
  refine q t _ G4 ⟨a, b, fl, C, some dx, ⟨X.env.qual ++ "<lambda>", lamArgs r, .List [.Attribute (.Name "_law_e" q6) f q7, .Attribute (.Name "_law_e" q6') h q7'] q8, lamScope, c'⟩, spG2 X.K f h, ?_, e1, ⟨E.ea, ?_, ?_⟩, ?_, ?_, ?_, lok_get2, ?_⟩
  · exact upd_same
  · exact (upd_ne (ne_of_none ha nt)).trans ha
  · intro dx' z
    cases z
    exact ⟨_, (upd_ne (ne_of_none hd nt)).trans hd⟩
  · exact (upd_ne (ne_of_none hb nt)).trans hb
  · exact (upd_ne (ne_of_none l3 nt)).trans l3
  · exact (upd_ne (ne_of_none k3 nt)).trans k3
  · intro H5 Q5 x5 q5
    have lf : List.lookup f [(h, z), (f, y)] = some y := by
      have : (f == h) = false := beq_eq_false_iff_ne.mpr fun e => beq_eq_false_iff_ne.mp hfh e.symm
      simp [List.lookup, this]
    exact ⟨a, C, dx, _, y, z, rfl, E.ea, e7, e8, x5 _ _ ((upd_ne (ne_of_none ha nt)).trans ha) exo_ne, x5 _ _ ((upd_ne (ne_of_none hd nt)).trans hd) exd_ne, lf, by simp, q5⟩
theorem pe_item0 (O : Nul X.K X.mg cs j g x) (M : Mk X T) (hg : Gl X x) (hdb : (x == ("__debug__" : Str)) = false := by decide) :
    PE X (.Tuple [.Call (.Name x q1) [] [] q3, .List [] q5, .Lambda (lamArgs r) (.List [] q8) lamScope q9] q10 q11) (tItem X T cs j (fun _ => some [])) := by
  obtain ⟨C, bm, e1, e2, E, e3, initId, F⟩ := O.ex
  obtain ⟨c, Pt, TB, hc, hm, hu⟩ := M.ex
  refine PE.imp (pe_tup (pa_cons (pe_err0 F e3 e2 E.er.kC hg hdb) (pa_cons (pe_lst pa_nil) (pa_cons (pe_lambda TB hc hm hu (by rfl) (by decide +kernel) (by rfl)) pa_nil)))) fun σ H Q q => ?_
  obtain ⟨ys, hy0, tT, q⟩ := q
  cases hy0
  refine fun a na => ⟨(by decide : 0 ≤ sizeLine), fun b nb => ?_⟩
  have G1 : Grow T H (L2.upd H a (exo a C none)) := .put tT na _
  have G2 := G1.trans (.put G1.tabs nb (.lst []))
  refine ⟨G2.tabs, fun fl c' H3 x3 n3 t3 f3 l3 k3 => ⟨(by decide : 3 ≤ sizeLine), fun t nt => ?_⟩⟩
  have G3 := G2.trans ⟨x3, n3, t3⟩
  have G4 := G3.trans (.put G3.tabs nt (.tup [.ref a, .ref b, .ref fl]))
  have ha : H3 a = some (exo a C none) := x3 _ _ ((upd_ne (ne_of_none upd_same nb)).trans upd_same) exo_ne
  have hb : H3 b = some (.lst []) := x3 _ _ upd_same (fun _ z => nomatch z)
  refine q t _ G4 ⟨a, b, fl, C, none, ⟨X.env.qual ++ "<lambda>", lamArgs r, .List [] q8, lamScope, c'⟩, spG0, ?_, e1, ⟨E.ea, ?_, ?_⟩, ?_, ?_, ?_, lok_get0, ?_⟩
  · exact upd_same
  · exact (upd_ne (ne_of_none ha nt)).trans ha
  · intro dx' z
    cases z
  · exact (upd_ne (ne_of_none hb nt)).trans hb
  · exact (upd_ne (ne_of_none l3 nt)).trans l3
  · exact (upd_ne (ne_of_none k3 nt)).trans k3
  · intro H5 Q5 x5 q5
    exact ⟨a, rfl, q5⟩
end
end Ask
namespace Ask
open PySem L2 PySem.Spec PyProof.Rows PySem.AskX LamX NdefX
inductive Items (P : Program) (w : World) (K : PySem.W.Frag) (mg : Str → Option Value) (base : Heap) (cs : List Addr) (H : Hp) : Nat → List V → List (List V) → Prop
  | nil (j : Nat) : Items P w K mg base cs H j [] []
  | cons {j t ys ts yss} (h : Item P w K mg base cs H t j ys) (r : Items P w K mg base cs H (j + 1) ts yss) : Items P w K mg base cs H j (.ref t :: ts) (ys :: yss)
section
variable {P : Program} {w : World} {K : PySem.W.Frag} {mg : Str → Option Value} {base : Heap} {cs : List Addr} {H H1 : Hp}
theorem Items.ext (x : ExtN H H1) : ∀ {j : Nat} {ts : List V} {yss : List (List V)}, Items P w K mg base cs H j ts yss → Items P w K mg base cs H1 j ts yss
  | _, _, _, .nil j => .nil j
  | _, _, _, .cons h r => .cons (h.ext x) (r.ext x)
theorem Items.append : ∀ {j k : Nat} {ts us : List V} {yss zss : List (List V)}, Items P w K mg base cs H j ts yss → k = j + ts.length → Items P w K mg base cs H k us zss → Items P w K mg base cs H j (ts ++ us) (yss ++ zss)
  | _, _, _, _, _, _, .nil j, e, z => by
    rw [List.length_nil, Nat.add_zero] at e
    rw [e] at z
    exact z
  | _, _, _, _, _, _, .cons h r, e, z => .cons h (r.append (by rw [e, List.length_cons]; omega) z)
theorem Items.length : ∀ {j : Nat} {ts : List V} {yss : List (List V)}, Items P w K mg base cs H j ts yss → ts.length = yss.length
  | _, _, _, .nil j => rfl
  | _, _, _, .cons h r => congrArg (· + 1) r.length
theorem Items.get : ∀ {j i : Nat} {ts : List V} {yss : List (List V)} {ys : List V}, Items P w K mg base cs H j ts yss → yss[i]? = some ys → ∃ t : Addr, ts[i]? = some (.ref t) ∧ Item P w K mg base cs H t (j + i) ys
  | _, _, _, _, _, .nil j, e => by simp at e
  | j, 0, _, _, _, .cons h r, e => by
    simp at e
    subst e
    exact ⟨_, rfl, h⟩
  | j, i + 1, _, _, _, .cons h r, e => by
    obtain ⟨t, e1, e2⟩ := r.get (i := i) (by simpa using e)
    refine ⟨t, by simpa using e1, ?_⟩
    rw [show j + (i + 1) = j + 1 + i by omega]
    exact e2
end
def tIts (X : Cx) (T : List (Addr × Str)) (cs : List Addr) : Nat → List (L2.St → Option (List V)) → TA
  | _, [] => tNil
  | j, v :: r => tCons (tItem X T cs j v) (tIts X T cs (j + 1) r)
theorem pa_as {X : Cx} {es : List Expr} (t : TA) (h : PA X es t) : PA X es t := h
theorem its_go {X : Cx} {T : List (Addr × Str)} {cs : List Addr} {σ : L2.St} : ∀ (fs : List (L2.St → Option (List V))) (j : Nat) (H : Hp) (Q : List V → Hp → Prop) (yss : List (List V)), fs.map (fun f => f σ) = yss.map some → Tabs T H →
    (∀ ts H1, Grow T H H1 → Items X.prog X.w X.K X.mg X.base cs H1 j ts yss → Q ts H1) → tIts X T cs j fs σ H Q
  | [], j, H, Q, yss, e, t, k => by
    cases yss with
    | nil => exact k [] H (.refl t) (.nil j)
    | cons y r => cases e
  | f :: r, j, H, Q, [], e, t, k => by cases e
  | f :: r, j, H, Q, y :: ys, e, t, k => by
    injection e with e1 e2
    refine ⟨y, e1, t, fun a H1 g h => ?_⟩
    exact its_go r (j + 1) H1 _ ys e2 g.tabs fun ts H2 g2 h2 => k _ _ (g.trans g2) (.cons (h.ext g2.ext) h2)
/-- the makers -/
def spMk (P : Program) (w : World) (K : PySem.W.Frag) (mg : Str → Option Value) (base : Heap) (cs : List Addr) (T : List (Addr × Str)) (j : Nat) (vf : V → V → List (List V)) : Sp := fun xs H Q _ => ∃ x y, xs = [x, y] ∧ Tabs T H ∧
  ∀ (l : Addr) (ts : List V) (H1 : Hp), Grow T H H1 → Items P w K mg base cs H1 j ts (vf x y) → H1 l = some (.lst ts) → Q (.ref l) H1
structure FunC (K : PySem.W.Frag) (x qual : Str) (st : Stmt) (f c : Addr) (fd : FuncData) : Prop where
  ex : ∃ (oc : Value) (od : Option Addr) (kV doc pm : Value) (an : Option Addr) (ct : Value) (osl : Array (Option Value)),
    fd = PySem.W.fnOf x qual (defArgs st) (defBody st) (defScope st) .none kV doc pm an (.ref c) ct ∧ K.lookup f = some ⟨oc, od, .func fd, osl⟩ ∧ PySem.W.codeIn K (.ref c) qual = true
structure Cls (P : Program) (w : World) (K : PySem.W.Frag) (mg : Str → Option Value) (base : Heap) (cs : List Addr) : Prop where
  c0 : One P w K mg base cs 0 0 "InvalidSchema" "word"
  c1 : One P w K mg base cs 1 0 "InvalidRows" "word"
  c2 : One P w K mg base cs 2 0 "Broken" "found"
  c3 : One P w K mg base cs 3 0 "SameName" "word"
  c4 : One P w K mg base cs 4 0 "BadGroup" "word"
  c5 : One P w K mg base cs 5 0 "BadAggregate" "word"
  c6 : One P w K mg base cs 6 0 "BadKind" "word"
  c7 : One P w K mg base cs 7 0 "BadShape" "word"
  c8 : One P w K mg base cs 8 0 "NoQuestion" "place"
  c9 : One P w K mg base cs 9 0 "BadParameter" "word"
  c10 : One P w K mg base cs 10 0 "InvalidPlan" "word"
  c11 : One P w K mg base cs 11 0 "FreeColumns" "value"
  c12 : One P w K mg base cs 12 0 "BadColumns" "word"
  c13 : One P w K mg base cs 13 0 "NoRoad" "index"
  c14 : One P w K mg base cs 14 0 "InvalidCount" "value"
  c15 : One P w K mg base cs 15 0 "InvalidStore" "word"
  c16 : One P w K mg base cs 16 0 "NotFlat" "path"
  c17 : One P w K mg base cs 17 0 "BadWay" "path"
  c18 : One P w K mg base cs 18 0 "InvalidName" "value"
  c19 : One P w K mg base cs 19 0 "InvalidChange" "index"
  c20 : One P w K mg base cs 20 0 "WrongWidth" "index"
  c21 : One P w K mg base cs 21 0 "InvalidText" "line"
  c22 : One P w K mg base cs 22 2 "UnknownTable" "word"
  c23 : Two P w K mg base cs 23 2 "UnknownColumn" "alias" "word"
  c24 : One P w K mg base cs 24 2 "UnknownRule" "value"
  c25 : One P w K mg base cs 25 2 "UnknownView" "value"
  c26 : One P w K mg base cs 26 2 "UnknownName" "value"
  c27 : One P w K mg base cs 27 1 "Ambiguous" "word"
  c28 : One P w K mg base cs 28 1 "NoPlace" "path"
  c29 : Two P w K mg base cs 29 1 "NoRule" "value" "path"
  c30 : One P w K mg base cs 30 1 "NoColumn" "value"
  c31 : One P w K mg base cs 31 3 "TooMany" "limit"
  c32 : Nul K mg cs 32 4 "Several"
  c33 : One P w K mg base cs 33 4 "InUse" "word"
  c34 : Nul K mg cs 34 4 "NothingToUndo"
  c35 : Nul K mg cs 35 4 "NothingToRedo"
section
variable {P : Program} {w : World} {K : PySem.W.Frag} {mg : Str → Option Value} {base : Heap} {cs : List Addr} {T : List (Addr × Str)} {f c Pt : Addr} {fd : FuncData}
abbrev n_mk : List Str := ["_law_x", "_law_y"]
def vVE (x y : V) : List (List V) := [[x], [x], [x], [x], [x], [x], [x], [x], [x], [x], [x], [x]]
theorem sc_VE : FnScope n_mk ["_law_x", "_law_y"] (defScope sVE) := ⟨rfl, rfl, rfl, by decide +kernel, rfl, by decide +kernel, by decide +kernel⟩
theorem ok_VE (F : FunC K "_law_value_errors" "_law_value_errors" sVE f c fd) (CL : Cls P w K mg base cs) (TB : TabB base mg c Pt) (hm : (Pt, (("_law_value_errors" : Str) ++ ".<locals>.") ++ "<lambda>") ∈ T) (hu : ∀ p ∈ T, p.1 = Pt → p.2 = (("_law_value_errors" : Str) ++ ".<locals>.") ++ "<lambda>") :
    FnOk P w K mg base CX0 3 f fd ["_law_x", "_law_y"] (spMk P w K mg base cs T 0 vVE) := by
  obtain ⟨oc, od, kV, doc, pm, an, ct, osl, rfl, lk, hcd⟩ := F.ex
  refine fn_of lk hcd sc_VE (fun vs H Q E h => ?_) fun A outer s H vs Q E hr h => ?_
  · obtain ⟨x, y, rfl, _⟩ := h
    rfl
  · obtain ⟨x, y, rfl, tT, k⟩ := h
    have M : Mk (cxOf CX0 P w K mg base n_mk "_law_value_errors" (defScope sVE) f (.ref c) A outer s H E) T := ⟨c, Pt, TB, rfl, hm, hu⟩
    refine ⟨_, pss_one (ps_ret (pe_lst (pa_as (tIts (cxOf CX0 P w K mg base n_mk "_law_value_errors" (defScope sVE) f (.ref c) A outer s H E) T cs 0 [at1 0, at1 0, at1 0, at1 0, at1 0, at1 0, at1 0, at1 0, at1 0, at1 0, at1 0, at1 0])
      (pa_cons (pe_item1 CL.c0 M hr (by rfl) rfl (.inl rfl) (by decide))
        (pa_cons (pe_item1 CL.c1 M hr (by rfl) rfl (.inl rfl) (by decide))
        (pa_cons (pe_item1 CL.c2 M hr (by rfl) rfl (.inl rfl) (by decide))
        (pa_cons (pe_item1 CL.c3 M hr (by rfl) rfl (.inl rfl) (by decide))
        (pa_cons (pe_item1 CL.c4 M hr (by rfl) rfl (.inl rfl) (by decide))
        (pa_cons (pe_item1 CL.c5 M hr (by rfl) rfl (.inl rfl) (by decide))
        (pa_cons (pe_item1 CL.c6 M hr (by rfl) rfl (.inl rfl) (by decide))
        (pa_cons (pe_item1 CL.c7 M hr (by rfl) rfl (.inl rfl) (by decide))
        (pa_cons (pe_item1 CL.c8 M hr (by rfl) rfl (.inl rfl) (by decide))
        (pa_cons (pe_item1 CL.c9 M hr (by rfl) rfl (.inl rfl) (by decide))
        (pa_cons (pe_item1 CL.c10 M hr (by rfl) rfl (.inl rfl) (by decide))
        (pa_cons (pe_item1 CL.c11 M hr (by rfl) rfl (.inl rfl) (by decide))
        pa_nil))))))))))))))), ?_⟩
    refine its_go _ _ _ _ (vVE x y) rfl tT fun ts H1 g h => ⟨?_, fun l hl => ?_⟩
    · rw [h.length]
      show 12 ≤ sizeLine
      decide
    · have g2 : Grow T H1 (L2.upd H1 l (.lst ts)) := .put g.tabs hl _
      exact k l ts _ (g.trans g2) (h.ext g2.ext) upd_same
def vME (x y : V) : List (List V) := [[x], [x], [x], [x], [x], [x], [x], [x], [x], [x]]
theorem sc_ME : FnScope n_mk ["_law_x", "_law_y"] (defScope sME) := ⟨rfl, rfl, rfl, by decide +kernel, rfl, by decide +kernel, by decide +kernel⟩
theorem ok_ME (F : FunC K "_law_more_value_errors" "_law_more_value_errors" sME f c fd) (CL : Cls P w K mg base cs) (TB : TabB base mg c Pt) (hm : (Pt, (("_law_more_value_errors" : Str) ++ ".<locals>.") ++ "<lambda>") ∈ T) (hu : ∀ p ∈ T, p.1 = Pt → p.2 = (("_law_more_value_errors" : Str) ++ ".<locals>.") ++ "<lambda>") :
    FnOk P w K mg base CX0 3 f fd ["_law_x", "_law_y"] (spMk P w K mg base cs T 12 vME) := by
  obtain ⟨oc, od, kV, doc, pm, an, ct, osl, rfl, lk, hcd⟩ := F.ex
  refine fn_of lk hcd sc_ME (fun vs H Q E h => ?_) fun A outer s H vs Q E hr h => ?_
  · obtain ⟨x, y, rfl, _⟩ := h
    rfl
  · obtain ⟨x, y, rfl, tT, k⟩ := h
    have M : Mk (cxOf CX0 P w K mg base n_mk "_law_more_value_errors" (defScope sME) f (.ref c) A outer s H E) T := ⟨c, Pt, TB, rfl, hm, hu⟩
    refine ⟨_, pss_one (ps_ret (pe_lst (pa_as (tIts (cxOf CX0 P w K mg base n_mk "_law_more_value_errors" (defScope sME) f (.ref c) A outer s H E) T cs 12 [at1 0, at1 0, at1 0, at1 0, at1 0, at1 0, at1 0, at1 0, at1 0, at1 0])
      (pa_cons (pe_item1 CL.c12 M hr (by rfl) rfl (.inl rfl) (by decide))
        (pa_cons (pe_item1 CL.c13 M hr (by rfl) rfl (.inl rfl) (by decide))
        (pa_cons (pe_item1 CL.c14 M hr (by rfl) rfl (.inl rfl) (by decide))
        (pa_cons (pe_item1 CL.c15 M hr (by rfl) rfl (.inl rfl) (by decide))
        (pa_cons (pe_item1 CL.c16 M hr (by rfl) rfl (.inl rfl) (by decide))
        (pa_cons (pe_item1 CL.c17 M hr (by rfl) rfl (.inl rfl) (by decide))
        (pa_cons (pe_item1 CL.c18 M hr (by rfl) rfl (.inl rfl) (by decide))
        (pa_cons (pe_item1 CL.c19 M hr (by rfl) rfl (.inl rfl) (by decide))
        (pa_cons (pe_item1 CL.c20 M hr (by rfl) rfl (.inl rfl) (by decide))
        (pa_cons (pe_item1 CL.c21 M hr (by rfl) rfl (.inl rfl) (by decide))
        pa_nil))))))))))))), ?_⟩
    refine its_go _ _ _ _ (vME x y) rfl tT fun ts H1 g h => ⟨?_, fun l hl => ?_⟩
    · rw [h.length]
      show 10 ≤ sizeLine
      decide
    · have g2 : Grow T H1 (L2.upd H1 l (.lst ts)) := .put g.tabs hl _
      exact k l ts _ (g.trans g2) (h.ext g2.ext) upd_same
def vOE (x y : V) : List (List V) := [[x], [x, y], [x], [x], [x], [x], [x], [x, y], [x], [x], [], [x], [], []]
theorem sc_OE : FnScope n_mk ["_law_x", "_law_y"] (defScope sOE) := ⟨rfl, rfl, rfl, by decide +kernel, rfl, by decide +kernel, by decide +kernel⟩
theorem ok_OE (F : FunC K "_law_other_errors" "_law_other_errors" sOE f c fd) (CL : Cls P w K mg base cs) (TB : TabB base mg c Pt) (hm : (Pt, (("_law_other_errors" : Str) ++ ".<locals>.") ++ "<lambda>") ∈ T) (hu : ∀ p ∈ T, p.1 = Pt → p.2 = (("_law_other_errors" : Str) ++ ".<locals>.") ++ "<lambda>") :
    FnOk P w K mg base CX0 3 f fd ["_law_x", "_law_y"] (spMk P w K mg base cs T 22 vOE) := by
  obtain ⟨oc, od, kV, doc, pm, an, ct, osl, rfl, lk, hcd⟩ := F.ex
  refine fn_of lk hcd sc_OE (fun vs H Q E h => ?_) fun A outer s H vs Q E hr h => ?_
  · obtain ⟨x, y, rfl, _⟩ := h
    rfl
  · obtain ⟨x, y, rfl, tT, k⟩ := h
    have M : Mk (cxOf CX0 P w K mg base n_mk "_law_other_errors" (defScope sOE) f (.ref c) A outer s H E) T := ⟨c, Pt, TB, rfl, hm, hu⟩
    refine ⟨_, pss_one (ps_ret (pe_lst (pa_as (tIts (cxOf CX0 P w K mg base n_mk "_law_other_errors" (defScope sOE) f (.ref c) A outer s H E) T cs 22 [at1 0, at2 0 1, at1 0, at1 0, at1 0, at1 0, at1 0, at2 0 1, at1 0, at1 0, (fun _ => some []), at1 0, (fun _ => some []), (fun _ => some [])])
      (pa_cons (pe_item1 CL.c22 M hr (by rfl) rfl (.inl rfl) (by decide))
        (pa_cons (pe_item2 CL.c23 (by decide) M hr (by rfl) rfl (.inl rfl) rfl (.inl rfl) (by decide))
        (pa_cons (pe_item1 CL.c24 M hr (by rfl) rfl (.inl rfl) (by decide))
        (pa_cons (pe_item1 CL.c25 M hr (by rfl) rfl (.inl rfl) (by decide))
        (pa_cons (pe_item1 CL.c26 M hr (by rfl) rfl (.inl rfl) (by decide))
        (pa_cons (pe_item1 CL.c27 M hr (by rfl) rfl (.inl rfl) (by decide))
        (pa_cons (pe_item1 CL.c28 M hr (by rfl) rfl (.inl rfl) (by decide))
        (pa_cons (pe_item2 CL.c29 (by decide) M hr (by rfl) rfl (.inl rfl) rfl (.inl rfl) (by decide))
        (pa_cons (pe_item1 CL.c30 M hr (by rfl) rfl (.inl rfl) (by decide))
        (pa_cons (pe_item1 CL.c31 M hr (by rfl) rfl (.inl rfl) (by decide))
        (pa_cons (pe_item0 CL.c32 M (by rfl))
        (pa_cons (pe_item1 CL.c33 M hr (by rfl) rfl (.inl rfl) (by decide))
        (pa_cons (pe_item0 CL.c34 M (by rfl))
        (pa_cons (pe_item0 CL.c35 M (by rfl))
        pa_nil))))))))))))))))), ?_⟩
    refine its_go _ _ _ _ (vOE x y) rfl tT fun ts H1 g h => ⟨?_, fun l hl => ?_⟩
    · rw [h.length]
      show 14 ≤ sizeLine
      decide
    · have g2 : Grow T H1 (L2.upd H1 l (.lst ts)) := .put g.tabs hl _
      exact k l ts _ (g.trans g2) (h.ext g2.ext) upd_same
end
end Ask
namespace Ask
open PySem L2 PySem.Spec PyProof.Rows PySem.AskX LamX NdefX
theorem boot_isi : bootBuiltins ("isinstance" : Str) = some (.builtin "isinstance") := by decide +kernel
def NameAt (mg : Str → Option Value) (cs : List Addr) (j : Nat) (x : Str) : Prop := ∃ D, cs[j]? = some D ∧ mg x = some (.ref D)
section
variable {P : Program} {w : World} {K : PySem.W.Frag} {mg : Str → Option Value} {base : Heap} {cs : List Addr} {j g : Nat} {x f h : Str}
theorem One.name (O : One P w K mg base cs j g x f) : NameAt mg cs j x := let ⟨C, _, _, e1, e2, _⟩ := O.ex; ⟨C, e1, e2⟩
theorem Two.name (O : Two P w K mg base cs j g x f h) : NameAt mg cs j x := let ⟨C, _, _, e1, e2, _⟩ := O.ex; ⟨C, e1, e2⟩
theorem Nul.name (O : Nul K mg cs j g x) : NameAt mg cs j x := let ⟨C, _, e1, e2, _⟩ := O.ex; ⟨C, e1, e2⟩
end
/-- under which of Python's own errors the i-th class stands -/
def gOf (i : Nat) : Nat := [0, 0, 0, 0, 0, 0, 0, 0, 0, 0, 0, 0, 0, 0, 0, 0, 0, 0, 0, 0, 0, 0, 2, 2, 2, 2, 2, 1, 1, 1, 1, 3, 4, 4, 4, 4].getD i 9
/-- of which classes the errors are -/
structure KsC (K : PySem.W.Frag) (cs : List Addr) : Prop where
  own : ∀ (i j : Nat) (C D : Addr), cs[i]? = some C → cs[j]? = some D → PySem.W.kitOne K (.ref C) (.ref D) = some (i == j)
  bas : ∀ (i : Nat) (C : Addr), cs[i]? = some C → PySem.W.kitOne K (.ref C) (.type "ValueError") = some (gOf i == 0) ∧ PySem.W.kitOne K (.ref C) (.type "LookupError") = some (gOf i == 1 || gOf i == 2) ∧ PySem.W.kitOne K (.ref C) (.type "KeyError") = some (gOf i == 2) ∧
    PySem.W.kitOne K (.ref C) (.type "ArithmeticError") = some (gOf i == 3) ∧ PySem.W.kitOne K (.ref C) (.type "RuntimeError") = some (gOf i == 4)
def tIsK (K : PySem.W.Frag) (cs : List Addr) (b : Nat → Bool) : TE := fun σ H Q => ∃ (e C : Addr) (i : Nat) (d : Option Addr), σ[0]? = some (some (.ref e)) ∧ cs[i]? = some C ∧ ErAt K H e C d ∧ Q (.bl (b i)) H
theorem pe_isK {X : Cx} {cs : List Addr} {j : Nat} {x : Str} {p q r pos : Pos} (kk : KsC X.K cs) (bi : X.mg "isinstance" = none) (n : NameAt X.mg cs j x) (h1 : Gl X "isinstance") (h2 : Gl X x) (hN : X.N[0]? = some ("_law_e" : Str)) (hv : Vis X.env.scope "_law_e") (hdb : (x == ("__debug__" : Str)) = false) :
    PE X (.Call (.Name "isinstance" p) [.Name "_law_e" q, .Name x r] [] pos) (tIsK X.K cs fun i => i == j) := by
  obtain ⟨D, e1, e2⟩ := n
  refine PE.imp (pe_callB call_isEr h1 bi boot_isi (pa_cons (pe_var hN hv) (pa_cons (pe_glob (v := .ref D) h2 e2 rfl hdb) pa_nil))) fun σ H Q q => ?_
  obtain ⟨e, C, i, d, hs, hc, E, q⟩ := q
  exact ⟨_, hs, e, C, d, .ref D, .ref D, _, rfl, E.1, fun u hu => hu, E.2.1, E.2.2, kk.own i j C D hc e1, q⟩
theorem pe_isT {X : Cx} {cs : List Addr} {x : Str} {n : String} {b : Nat → Bool} {p q r pos : Pos} (kk : ∀ (i : Nat) (C : Addr), cs[i]? = some C → PySem.W.kitOne X.K (.ref C) (.type n) = some (b i)) (bi : X.mg "isinstance" = none) (h1 : Gl X "isinstance") (h2 : Gl X x) (hx : X.mg x = none) (hb : bootBuiltins x = some (.type n))
    (hN : X.N[0]? = some ("_law_e" : Str)) (hv : Vis X.env.scope "_law_e") (hn : x ≠ "__name__") (hdb : (x == ("__debug__" : Str)) = false) :
    PE X (.Call (.Name "isinstance" p) [.Name "_law_e" q, .Name x r] [] pos) (tIsK X.K cs b) := by
  refine PE.imp (pe_callB call_isEr h1 bi boot_isi (pa_cons (pe_var hN hv) (pa_cons (pe_bltn (v := .ty n) h2 hx hb rfl hn hdb) pa_nil))) fun σ H Q q => ?_
  obtain ⟨e, C, i, d, hs, hc, E, q⟩ := q
  exact ⟨_, hs, e, C, d, .ty n, .type n, _, rfl, E.1, fun u hu => hu, E.2.1, E.2.2, kk i C hc, q⟩
def spKd (K : PySem.W.Frag) (cs : List Addr) (bs : Nat → List Bool) : Sp := fun xs H Q _ => ∃ (e C : Addr) (i : Nat) (d : Option Addr), xs = [.ref e] ∧ cs[i]? = some C ∧ ErAt K H e C d ∧ ∀ r H1, Same H H1 → H1 r = some (.lst ((bs i).map V.bl)) → Q (.ref r) H1
abbrev n_kd : List Str := ["_law_e"]
section
variable {P : Program} {w : World} {K : PySem.W.Frag} {mg : Str → Option Value} {base : Heap} {cs : List Addr} {f : Addr} {fd : FuncData}
theorem sc_VK : FnScope n_kd ["_law_e"] (defScope sVK) := ⟨rfl, rfl, rfl, by decide +kernel, rfl, by decide +kernel, by decide +kernel⟩
def bVK (i : Nat) : List Bool := [i == 0, i == 1, i == 2, i == 3, i == 4, i == 5, i == 6, i == 7, i == 8, i == 9, i == 10, i == 11]
theorem ok_VK (F : Fun K "_law_value_kinds" "_law_value_kinds" sVK f fd) (B : Blt mg) (CL : Cls P w K mg base cs) (kk : KsC K cs) : FnOk P w K mg base CX0 1 f fd ["_law_e"] (spKd K cs bVK) := by
  refine F.ok sc_VK (fun vs H Q E h => ?_) (fun cdv A outer s H vs Q E hr h => ?_)
  · obtain ⟨e, C, i, d, rfl, _⟩ := h
    rfl
  · obtain ⟨e, C, i, d, rfl, hc, E, k⟩ := h
    refine ⟨_, pss_one (ps_ret (pe_lst
      (pa_cons (pe_isK kk B.isi CL.c0.name (by rfl) (by rfl) rfl (.inl rfl) (by decide))
        (pa_cons (pe_isK kk B.isi CL.c1.name (by rfl) (by rfl) rfl (.inl rfl) (by decide))
        (pa_cons (pe_isK kk B.isi CL.c2.name (by rfl) (by rfl) rfl (.inl rfl) (by decide))
        (pa_cons (pe_isK kk B.isi CL.c3.name (by rfl) (by rfl) rfl (.inl rfl) (by decide))
        (pa_cons (pe_isK kk B.isi CL.c4.name (by rfl) (by rfl) rfl (.inl rfl) (by decide))
        (pa_cons (pe_isK kk B.isi CL.c5.name (by rfl) (by rfl) rfl (.inl rfl) (by decide))
        (pa_cons (pe_isK kk B.isi CL.c6.name (by rfl) (by rfl) rfl (.inl rfl) (by decide))
        (pa_cons (pe_isK kk B.isi CL.c7.name (by rfl) (by rfl) rfl (.inl rfl) (by decide))
        (pa_cons (pe_isK kk B.isi CL.c8.name (by rfl) (by rfl) rfl (.inl rfl) (by decide))
        (pa_cons (pe_isK kk B.isi CL.c9.name (by rfl) (by rfl) rfl (.inl rfl) (by decide))
        (pa_cons (pe_isK kk B.isi CL.c10.name (by rfl) (by rfl) rfl (.inl rfl) (by decide))
        (pa_cons (pe_isK kk B.isi CL.c11.name (by rfl) (by rfl) rfl (.inl rfl) (by decide))
        pa_nil)))))))))))))), ?_⟩
    exact ⟨e, C, i, d, rfl, hc, E, ⟨e, C, i, d, rfl, hc, E, ⟨e, C, i, d, rfl, hc, E, ⟨e, C, i, d, rfl, hc, E, ⟨e, C, i, d, rfl, hc, E, ⟨e, C, i, d, rfl, hc, E, ⟨e, C, i, d, rfl, hc, E, ⟨e, C, i, d, rfl, hc, E, ⟨e, C, i, d, rfl, hc, E, ⟨e, C, i, d, rfl, hc, E, ⟨e, C, i, d, rfl, hc, E, ⟨e, C, i, d, rfl, hc, E, ⟨by show 12 ≤ sizeLine; decide, fun r hr => k r _ (fun a o e => (upd_ne (ne_of_none e hr)).trans e) upd_same⟩⟩⟩⟩⟩⟩⟩⟩⟩⟩⟩⟩⟩
theorem sc_MK : FnScope n_kd ["_law_e"] (defScope sMK) := ⟨rfl, rfl, rfl, by decide +kernel, rfl, by decide +kernel, by decide +kernel⟩
def bMK (i : Nat) : List Bool := [i == 12, i == 13, i == 14, i == 15, i == 16, i == 17, i == 18, i == 19, i == 20, i == 21]
theorem ok_MK (F : Fun K "_law_more_value_kinds" "_law_more_value_kinds" sMK f fd) (B : Blt mg) (CL : Cls P w K mg base cs) (kk : KsC K cs) : FnOk P w K mg base CX0 1 f fd ["_law_e"] (spKd K cs bMK) := by
  refine F.ok sc_MK (fun vs H Q E h => ?_) (fun cdv A outer s H vs Q E hr h => ?_)
  · obtain ⟨e, C, i, d, rfl, _⟩ := h
    rfl
  · obtain ⟨e, C, i, d, rfl, hc, E, k⟩ := h
    refine ⟨_, pss_one (ps_ret (pe_lst
      (pa_cons (pe_isK kk B.isi CL.c12.name (by rfl) (by rfl) rfl (.inl rfl) (by decide))
        (pa_cons (pe_isK kk B.isi CL.c13.name (by rfl) (by rfl) rfl (.inl rfl) (by decide))
        (pa_cons (pe_isK kk B.isi CL.c14.name (by rfl) (by rfl) rfl (.inl rfl) (by decide))
        (pa_cons (pe_isK kk B.isi CL.c15.name (by rfl) (by rfl) rfl (.inl rfl) (by decide))
        (pa_cons (pe_isK kk B.isi CL.c16.name (by rfl) (by rfl) rfl (.inl rfl) (by decide))
        (pa_cons (pe_isK kk B.isi CL.c17.name (by rfl) (by rfl) rfl (.inl rfl) (by decide))
        (pa_cons (pe_isK kk B.isi CL.c18.name (by rfl) (by rfl) rfl (.inl rfl) (by decide))
        (pa_cons (pe_isK kk B.isi CL.c19.name (by rfl) (by rfl) rfl (.inl rfl) (by decide))
        (pa_cons (pe_isK kk B.isi CL.c20.name (by rfl) (by rfl) rfl (.inl rfl) (by decide))
        (pa_cons (pe_isK kk B.isi CL.c21.name (by rfl) (by rfl) rfl (.inl rfl) (by decide))
        pa_nil)))))))))))), ?_⟩
    exact ⟨e, C, i, d, rfl, hc, E, ⟨e, C, i, d, rfl, hc, E, ⟨e, C, i, d, rfl, hc, E, ⟨e, C, i, d, rfl, hc, E, ⟨e, C, i, d, rfl, hc, E, ⟨e, C, i, d, rfl, hc, E, ⟨e, C, i, d, rfl, hc, E, ⟨e, C, i, d, rfl, hc, E, ⟨e, C, i, d, rfl, hc, E, ⟨e, C, i, d, rfl, hc, E, ⟨by show 10 ≤ sizeLine; decide, fun r hr => k r _ (fun a o e => (upd_ne (ne_of_none e hr)).trans e) upd_same⟩⟩⟩⟩⟩⟩⟩⟩⟩⟩⟩
theorem sc_OK : FnScope n_kd ["_law_e"] (defScope sOK) := ⟨rfl, rfl, rfl, by decide +kernel, rfl, by decide +kernel, by decide +kernel⟩
def bOK (i : Nat) : List Bool := [i == 22, i == 23, i == 24, i == 25, i == 26, i == 27, i == 28, i == 29, i == 30, i == 31, i == 32, i == 33, i == 34, i == 35]
theorem ok_OK (F : Fun K "_law_other_kinds" "_law_other_kinds" sOK f fd) (B : Blt mg) (CL : Cls P w K mg base cs) (kk : KsC K cs) : FnOk P w K mg base CX0 1 f fd ["_law_e"] (spKd K cs bOK) := by
  refine F.ok sc_OK (fun vs H Q E h => ?_) (fun cdv A outer s H vs Q E hr h => ?_)
  · obtain ⟨e, C, i, d, rfl, _⟩ := h
    rfl
  · obtain ⟨e, C, i, d, rfl, hc, E, k⟩ := h
    refine ⟨_, pss_one (ps_ret (pe_lst
      (pa_cons (pe_isK kk B.isi CL.c22.name (by rfl) (by rfl) rfl (.inl rfl) (by decide))
        (pa_cons (pe_isK kk B.isi CL.c23.name (by rfl) (by rfl) rfl (.inl rfl) (by decide))
        (pa_cons (pe_isK kk B.isi CL.c24.name (by rfl) (by rfl) rfl (.inl rfl) (by decide))
        (pa_cons (pe_isK kk B.isi CL.c25.name (by rfl) (by rfl) rfl (.inl rfl) (by decide))
        (pa_cons (pe_isK kk B.isi CL.c26.name (by rfl) (by rfl) rfl (.inl rfl) (by decide))
        (pa_cons (pe_isK kk B.isi CL.c27.name (by rfl) (by rfl) rfl (.inl rfl) (by decide))
        (pa_cons (pe_isK kk B.isi CL.c28.name (by rfl) (by rfl) rfl (.inl rfl) (by decide))
        (pa_cons (pe_isK kk B.isi CL.c29.name (by rfl) (by rfl) rfl (.inl rfl) (by decide))
        (pa_cons (pe_isK kk B.isi CL.c30.name (by rfl) (by rfl) rfl (.inl rfl) (by decide))
        (pa_cons (pe_isK kk B.isi CL.c31.name (by rfl) (by rfl) rfl (.inl rfl) (by decide))
        (pa_cons (pe_isK kk B.isi CL.c32.name (by rfl) (by rfl) rfl (.inl rfl) (by decide))
        (pa_cons (pe_isK kk B.isi CL.c33.name (by rfl) (by rfl) rfl (.inl rfl) (by decide))
        (pa_cons (pe_isK kk B.isi CL.c34.name (by rfl) (by rfl) rfl (.inl rfl) (by decide))
        (pa_cons (pe_isK kk B.isi CL.c35.name (by rfl) (by rfl) rfl (.inl rfl) (by decide))
        pa_nil)))))))))))))))), ?_⟩
    exact ⟨e, C, i, d, rfl, hc, E, ⟨e, C, i, d, rfl, hc, E, ⟨e, C, i, d, rfl, hc, E, ⟨e, C, i, d, rfl, hc, E, ⟨e, C, i, d, rfl, hc, E, ⟨e, C, i, d, rfl, hc, E, ⟨e, C, i, d, rfl, hc, E, ⟨e, C, i, d, rfl, hc, E, ⟨e, C, i, d, rfl, hc, E, ⟨e, C, i, d, rfl, hc, E, ⟨e, C, i, d, rfl, hc, E, ⟨e, C, i, d, rfl, hc, E, ⟨e, C, i, d, rfl, hc, E, ⟨e, C, i, d, rfl, hc, E, ⟨by show 14 ≤ sizeLine; decide, fun r hr => k r _ (fun a o e => (upd_ne (ne_of_none e hr)).trans e) upd_same⟩⟩⟩⟩⟩⟩⟩⟩⟩⟩⟩⟩⟩⟩⟩
theorem sc_Bas : FnScope ["_law_e", "_law_found"] ["_law_e"] (defScope sBas) := ⟨rfl, rfl, rfl, by decide +kernel, rfl, by decide +kernel, by decide +kernel⟩
def bBas (i : Nat) : List Bool := [gOf i == 0, gOf i == 1, gOf i == 2, gOf i == 3, gOf i == 4]
theorem boot_V : bootBuiltins ("ValueError" : Str) = some (.type "ValueError") := by decide +kernel
theorem boot_L : bootBuiltins ("LookupError" : Str) = some (.type "LookupError") := by decide +kernel
theorem boot_K : bootBuiltins ("KeyError" : Str) = some (.type "KeyError") := by decide +kernel
theorem boot_A : bootBuiltins ("ArithmeticError" : Str) = some (.type "ArithmeticError") := by decide +kernel
theorem boot_R : bootBuiltins ("RuntimeError" : Str) = some (.type "RuntimeError") := by decide +kernel
theorem pe_lk {X : Cx} {cs : List Addr} {a b : Expr} {p p' : Pos} (ha : PE X a (tIsK X.K cs fun i => gOf i == 1 || gOf i == 2)) (hb : PE X b (tIsK X.K cs fun i => gOf i == 2)) : PE X (.BoolOp .And [a, .UnaryOp .Not b p] p') (tIsK X.K cs fun i => gOf i == 1) := by
  refine PE.imp (pe_and ha (pe_one (pe_not hb))) fun σ H Q q => ?_
  obtain ⟨e, C, i, d, hs, hc, E, q⟩ := q
  refine ⟨e, C, i, d, hs, hc, E, _, rfl, ?_⟩
  have q' : Q (.bl (gOf i == 1)) H := q
  show if (gOf i == 1 || gOf i == 2) = true then tNotV (tIsK X.K cs fun i => gOf i == 2) σ H Q else Q (.bl false) H
  have nt : ∀ b, (gOf i == 2) = b → Q (.bl (!b)) H → tNotV (tIsK X.K cs fun i => gOf i == 2) σ H Q := fun b eb q => ⟨e, C, i, d, hs, hc, E, _, rfl, by
    show Q (.bl (!(gOf i == 2))) H
    rw [eb]
    exact q⟩
  cases h1 : gOf i == 1 with
  | true =>
    rw [h1] at q'
    rw [Bool.true_or, if_pos rfl]
    refine nt false ?_ q'
    rw [eq_of_beq h1]
    rfl
  | false =>
    rw [h1] at q'
    rw [Bool.false_or]
    cases h2 : gOf i == 2 with
    | true => rw [if_pos rfl]; exact nt true h2 q'
    | false => exact iteF q'
theorem ErAt.same {H H1 : Hp} {e C : Addr} {d : Option Addr} (h : ErAt K H e C d) (x : ∀ a o, H a = some o → H1 a = some o) : ErAt K H1 e C d := h.ext (.of x)
theorem ok_Bas (F : Fun K "_law_bases" "_law_bases" sBas f fd) (B : Blt mg) (kk : KsC K cs) : FnOk P w K mg base CX0 1 f fd ["_law_e"] (spKd K cs bBas) := by
  have kV : ∀ (i : Nat) (C : Addr), cs[i]? = some C → PySem.W.kitOne K (.ref C) (.type "ValueError") = some (gOf i == 0) := fun i C h => (kk.bas i C h).1
  have kL : ∀ (i : Nat) (C : Addr), cs[i]? = some C → PySem.W.kitOne K (.ref C) (.type "LookupError") = some (gOf i == 1 || gOf i == 2) := fun i C h => (kk.bas i C h).2.1
  have kK : ∀ (i : Nat) (C : Addr), cs[i]? = some C → PySem.W.kitOne K (.ref C) (.type "KeyError") = some (gOf i == 2) := fun i C h => (kk.bas i C h).2.2.1
  have kA : ∀ (i : Nat) (C : Addr), cs[i]? = some C → PySem.W.kitOne K (.ref C) (.type "ArithmeticError") = some (gOf i == 3) := fun i C h => (kk.bas i C h).2.2.2.1
  have kR : ∀ (i : Nat) (C : Addr), cs[i]? = some C → PySem.W.kitOne K (.ref C) (.type "RuntimeError") = some (gOf i == 4) := fun i C h => (kk.bas i C h).2.2.2.2
  refine F.ok sc_Bas (fun vs H Q E h => ?_) (fun cdv A outer s H vs Q E hr h => ?_)
  · obtain ⟨e, C, i, d, rfl, _⟩ := h
    rfl
  · obtain ⟨e, C, i, d, rfl, hc, E, k⟩ := h
    refine ⟨_, pss_cons (ps_set (i := 1) sc_Bas.nd rfl (.inl rfl) (pe_lst (pa_cons (pe_isT kV B.isi (by rfl) (by rfl) B.eV boot_V rfl (.inl rfl) (by decide) (by decide))
        (pa_cons (pe_lk (pe_isT kL B.isi (by rfl) (by rfl) B.eL boot_L rfl (.inl rfl) (by decide) (by decide)) (pe_isT kK B.isi (by rfl) (by rfl) B.eK boot_K rfl (.inl rfl) (by decide) (by decide))) pa_nil))))
      (pss_one (ps_ret (pe_op op_cat (pv 1) (pe_lst (pa_cons (pe_isT kK B.isi (by rfl) (by rfl) B.eK boot_K rfl (.inl rfl) (by decide) (by decide)) (pa_cons (pe_isT kA B.isi (by rfl) (by rfl) B.eA boot_A rfl (.inl rfl) (by decide) (by decide)) (pa_cons (pe_isT kR B.isi (by rfl) (by rfl) B.eR boot_R rfl (.inl rfl) (by decide) (by decide)) pa_nil))))))), ?_⟩
    refine ⟨e, C, i, d, rfl, hc, E, e, C, i, d, rfl, hc, E, (by decide : 2 ≤ sizeLine), fun l hl => ?_⟩
    have s1 : ∀ a o, H a = some o → (L2.upd H l (.lst [.bl (gOf i == 0), .bl (gOf i == 1)])) a = some o := fun a o e => (upd_ne (ne_of_none e hl)).trans e
    have E1 := E.same s1
    refine ⟨_, rfl, e, C, i, d, rfl, hc, E1, e, C, i, d, rfl, hc, E1, e, C, i, d, rfl, hc, E1, (by decide : 3 ≤ sizeLine), fun r hr => ?_⟩
    refine ⟨l, r, _, _, rfl, rfl, (upd_ne (ne_of_none upd_same hr)).trans upd_same, upd_same, (by decide : 5 ≤ sizeLine), fun q hq => ?_⟩
    refine k q _ (fun a o e => ?_) upd_same
    have e1 := s1 a o e
    have e2 := (upd_ne (o := HO.lst [.bl (gOf i == 2), .bl (gOf i == 3), .bl (gOf i == 4)]) (ne_of_none e1 hr)).trans e1
    exact (upd_ne (ne_of_none e2 hq)).trans e2
end
end Ask
namespace Ask
open PySem L2 PySem.Spec PyProof.Rows PySem.AskX LamX NdefX
theorem PA.imp {X : Cx} {es : List Expr} {t t' : TA} (h : PA X es t) (i : ∀ σ H (Q : List V → Hp → Prop), t' σ H Q → t σ H Q) : PA X es t' := ⟨fun pos pins s σ H Q I q => h.run pos pins s σ H Q I (i σ H Q q)⟩
section
variable {K : PySem.W.Frag} {H H1 : Hp}
theorem tupS {a : Addr} {xs : List V} (s : Same H H1) (h : SqT K H a xs) : SqT K H1 a xs := by
  rcases h with (h | ⟨u, h⟩) | h
  · exact .inl (.inl (s _ _ h))
  · exact .inl (.inr ⟨u, s _ _ h⟩)
  · exact .inr h
mutual
theorem dpS (s : Same H H1) : ∀ {v : V} {d : PyData}, Dp K H v d → Dp K H1 v d
  | _, _, .non => .non
  | _, _, .bl b => .bl b
  | _, _, .int i => .int i
  | _, _, .str x => .str x
  | _, _, .lst h r => .lst (Same.seq s h) (dpsS s r)
  | _, _, .tup h r => .tup (tupS s h) (dpsS s r)
theorem dpsS (s : Same H H1) : ∀ {vs : List V} {ds : List PyData}, DpAll K H vs ds → DpAll K H1 vs ds
  | _, _, .nil => .nil
  | _, _, .cons a r => .cons (dpS s a) (dpsS s r)
end
theorem Dx.same (s : Same H H1) {v : V} {d : PyData} (h : Dx K H v d) : Dx K H1 v d := by
  cases h with
  | dp h e => exact .dp (dpS s h) e
  | d0 h => exact .d0 (s _ _ h)
  | d1 h => exact .d1 (s _ _ h)
theorem DxAll.same (s : Same H H1) : ∀ {vs : List V} {ds : List PyData}, DxAll K H vs ds → DxAll K H1 vs ds
  | _, _, .nil => .nil
  | _, _, .cons a r => .cons (a.same s) (r.same s)
theorem DxAll.plain : ∀ {vs : List V} {ds : List PyData}, DxAll K H vs ds → PyData.hasDictAll ds = false → DpAll K H vs ds
  | _, _, .nil, _ => .nil
  | _, _, .cons a r, e => by
    simp only [PyData.hasDictAll, Bool.or_eq_false_iff] at e
    refine .cons ?_ (r.plain e.2)
    cases a with
    | dp h _ => exact h
    | d0 _ => simp [PyData.hasDict] at e
    | d1 _ => simp [PyData.hasDict] at e
theorem DxAll.mem : ∀ {vs : List V} {ds : List PyData} {v : V}, DxAll K H vs ds → v ∈ vs → ∃ d ∈ ds, Dx K H v d
  | _, _, _, .nil, m => nomatch m
  | _, _, v, .cons a r, m => by
    rcases List.mem_cons.mp m with e | m
    · subst e
      exact ⟨_, List.mem_cons_self .., a⟩
    · obtain ⟨d, hd, h⟩ := r.mem m
      exact ⟨d, List.mem_cons_of_mem _ hd, h⟩
theorem DxAll.append : ∀ {vs us : List V} {ds es : List PyData}, DxAll K H vs ds → DxAll K H us es → DxAll K H (vs ++ us) (ds ++ es)
  | _, _, _, _, .nil, z => z
  | _, _, _, _, .cons a r, z => .cons a (r.append z)
theorem DxAll.length : ∀ {vs : List V} {ds : List PyData}, DxAll K H vs ds → vs.length = ds.length
  | _, _, .nil => rfl
  | _, _, .cons a r => congrArg (· + 1) r.length
/-- what is new in H1 -/
def New (H H1 : Hp) : Hp := fun b => match H b with
  | none => H1 b
  | some _ => none
theorem new_at {H H1 : Hp} {b : Addr} (h : H b = none) : New H H1 b = H1 b := by unfold New; rw [h]
theorem new_of {H H1 : Hp} {b : Addr} {o : HO} (h : New H H1 b = some o) : H b = none ∧ H1 b = some o := by
  unfold New at h
  cases e : H b with
  | none => rw [e] at h; exact ⟨rfl, h⟩
  | some u => rw [e] at h; cases h
theorem newIn {H H1 : Hp} : Same (New H H1) H1 := fun b o h => (new_of h).2
theorem new1 {H H1 H2 : Hp} (s : Same H1 H2) : Same (New H H1) (New H H2) := fun b o h => by
  obtain ⟨h1, h2⟩ := new_of h
  rw [new_at h1]
  exact s _ _ h2
theorem new2 {H H1 H2 : Hp} (s : Same H H1) : Same (New H1 H2) (New H H2) := fun b o h => by
  obtain ⟨h1, h2⟩ := new_of h
  rw [new_at (s.free h1)]
  exact h2
theorem newO {H H1 H2 : Hp} {D : Addr} {u : HO} (o : Off H1 H2 D) (hd : H D = some u) : Same (New H H1) (New H H2) := fun b v h => by
  obtain ⟨h1, h2⟩ := new_of h
  rw [new_at h1]
  exact o _ _ h2 (fun e => by rw [e, hd] at h1; cases h1)
end
/-- an expression that makes these data -/
def tDat (K : PySem.W.Frag) (d : PyData) : TE := fun _ H Q => ∀ v H1, Same H H1 → Dx K (New H H1) v d → Q v H1
def tDats (K : PySem.W.Frag) (ds : List PyData) : TA := fun _ H Q => ∀ vs H1, Same H H1 → DxAll K (New H H1) vs ds → Q vs H1
section
variable {X : Cx} {e : Expr} {es : List Expr} {d : PyData} {ds : List PyData} {pos p q r : Pos} {n : Nat}
theorem pd_nil : PA X [] (tDats X.K []) := PA.imp pa_nil fun σ H Q q => q [] H (.refl H) .nil
theorem pd_cons (h : PE X e (tDat X.K d)) (t : PA X es (tDats X.K ds)) (hs : starEach (e :: es) X.env = (false, eval e X.env) :: starEach es X.env := by rfl) : PA X (e :: es) (tDats X.K (d :: ds)) := PA.imp (pa_cons h t hs) fun σ H Q q v H1 s1 x vs H2 s2 xs => q _ _ (s1.trans s2) (.cons (x.same (new1 s2)) (xs.same (new2 s1)))
theorem pd_non : PE X (.Constant .none n pos) (tDat X.K .none) := PE.imp pe_non fun σ H Q q => q _ _ (.refl H) (.dp .non rfl)
theorem pd_bl {b : Bool} : PE X (.Constant (.bool b) n pos) (tDat X.K (.bool b)) := PE.imp pe_bl fun σ H Q q => q _ _ (.refl H) (.dp (.bl b) rfl)
theorem pd_int {i : Int} : PE X (.Constant (.int i) n pos) (tDat X.K (.int i)) := PE.imp pe_int fun σ H Q q => q _ _ (.refl H) (.dp (.int i) rfl)
theorem pd_str {i : Str} : PE X (.Constant (.str i) n pos) (tDat X.K (.str i)) := PE.imp pe_str fun σ H Q q => q _ _ (.refl H) (.dp (.str i) rfl)
theorem pd_neg {i : Int} : PE X (.UnaryOp .USub (.Constant (.int i) n pos) p) (tDat X.K (.int (-i))) := PE.imp (pe_un un_neg pe_int) fun σ H Q q => ⟨i, rfl, q _ _ (.refl H) (.dp (.int _) rfl)⟩
theorem pd_pow {m : Nat} : PE X (.BinOp (.Constant (.int 10) n pos) .Pow (.Constant (.int 40) m p) q) (tDat X.K (.int (10 ^ (40 : Int).toNat))) := PE.imp (pe_op op_pow pe_int pe_int) fun σ H Q q => ⟨10, 40, rfl, rfl, ⟨by decide, by decide, by decide⟩, q _ _ (.refl H) (.dp (.int _) rfl)⟩
theorem pd_tup (h : PA X es (tDats X.K ds)) (hd : PyData.hasDictAll ds = false) (hl : ds.length ≤ 1000) : PE X (.Tuple es n pos) (tDat X.K (.tuple ds)) := PE.imp (pe_tup h) fun σ H Q q vs H1 s1 xs => ⟨by rw [xs.length]; exact Nat.le_trans hl (by decide), fun a ha => by
  have s2 : Same H1 (L2.upd H1 a (.tup vs)) := fun b o e => (upd_ne (ne_of_none e ha)).trans e
  exact q _ _ (s1.trans s2) (.dp (.tup (.of ((new_at (s1.free ha)).trans upd_same)) (dpsS (new1 s2) (xs.plain hd))) (by simp only [PyData.hasDict]; exact hd))⟩
theorem pd_lst (h : PA X es (tDats X.K ds)) (hd : PyData.hasDictAll ds = false) (hl : ds.length ≤ 1000) : PE X (.List es pos) (tDat X.K (.list ds)) := PE.imp (pe_lst h) fun σ H Q q vs H1 s1 xs => ⟨by rw [xs.length]; exact Nat.le_trans hl (by decide), fun a ha => by
  have s2 : Same H1 (L2.upd H1 a (.lst vs)) := fun b o e => (upd_ne (ne_of_none e ha)).trans e
  exact q _ _ (s1.trans s2) (.dp (.lst (.of ((new_at (s1.free ha)).trans upd_same)) (dpsS (new1 s2) (xs.plain hd))) (by simp only [PyData.hasDict]; exact hd))⟩
theorem pd_d0 : PE X (.Dict [] [] pos) (tDat X.K (.dict [])) := PE.imp pe_dnewK fun σ H Q q => by
  intro a ha
  exact q _ _ (fun b o e => (upd_ne (ne_of_none e ha)).trans e) (.d0 ((new_at ha).trans upd_same))
theorem pd_d1 {z : Str} {i : Int} {m : Nat} : PE X (.Dict [some (.Constant (.str z) n p)] [.Constant (.int i) m q] pos) (tDat X.K (.dict [(.str z, .int i)])) := PE.imp (pe_disp (pps_cons pe_str pe_int pps_nil) rfl rfl (by intro z; cases z) (Nat.le_of_ble_eq_true rfl)) fun σ H Q k => by
  intro a ha
  refine ⟨upd_same, [(.inr z, .int i)], rfl, (by decide : 1 ≤ 15), ?_⟩
  refine k _ _ (fun b o e => (upd_ne (ne_of_none e ha)).trans ((upd_ne (ne_of_none e ha)).trans e)) (.d1 (z := z) (i := i) ?_)
  exact (new_at ha).trans upd_same
end
def odds1 : List PyData := [.none, .bool true, .bool false, .int (0), .int (1), .int (-1), .int (7), .int (10 ^ (40 : Int).toNat), .str "", .str "a", .str "self", .str "select", .str "A", .str "a b", .str "whole", .tuple [], .list [], .dict [], .tuple [.str "a"]]
def odds2 : List PyData := [.list [.str "a"], .tuple [.int (0)], .tuple [.int (1), .int (2)], .list [.int (0)], .tuple [.tuple [.str "a"]], .dict [(.str "a", .int 1)], .tuple [.str "column", .int (1)], .tuple [.str "value", .none], .tuple [.str "and", .tuple []], .tuple [.none]]
def odds3 : List PyData := [.tuple [.bool true], .tuple [.str "one", .int (1)], .str "abcdefghijklm", .tuple [.int (1), .int (1)], .tuple [.tuple [.str "value", .int (1)]], .list [.tuple []], .int (3)]
theorem odds_short : shortAll (odds1 ++ odds2 ++ odds3) := by
  unfold shortAll
  decide +kernel
abbrev n_odd : List Str := ["_law_tape", "_law_some"]
theorem sc_odd : FnScope n_odd ["_law_tape"] (defScope sOdd) := ⟨rfl, rfl, rfl, by decide +kernel, rfl, by decide +kernel, by decide +kernel⟩
def spOdd (K : PySem.W.Frag) : Sp := fun xs H Q _ => ∃ (D : Addr) (p : Int), xs = [.ref D] ∧ Tape H D p ∧ p < 1000000000 ∧
  ∀ (v : V) (d : PyData) (p' : Int) (H' : Hp), Dx K (New H H') v d → d.showable = true ∧ d.depth ≤ 20 ∧ d.shown.length ≤ 1000 → Tape H' D p' → p' ≤ p + 1 → Off H H' D → Q v H'
theorem ok_odd {P : Program} {w : World} {K : PySem.W.Frag} {mg : Str → Option Value} {base : Heap} {f : Addr} {fd : FuncData} (F : Fun K "_law_odd" "_law_odd" sOdd f fd) (DP : Dn P w K mg base 2 "_law_pick" ["_law_tape", "_law_items"] (spPick K)) : FnOk P w K mg base CX0 3 f fd ["_law_tape"] (spOdd K) := by
  refine F.ok sc_odd (fun vs H Q E h => ?_) (fun cdv A outer s H vs Q E hr h => ?_)
  · obtain ⟨D, p, rfl, _⟩ := h
    rfl
  · obtain ⟨D, p, rfl, T, hp, k⟩ := h
    refine ⟨_, pss_cons (ps_set (i := 1) sc_odd.nd rfl (.inl rfl) (pe_lst (pd_cons pd_non (pd_cons pd_bl (pd_cons pd_bl (pd_cons pd_int (pd_cons pd_int (pd_cons pd_neg (pd_cons pd_int (pd_cons pd_pow (pd_cons pd_str (pd_cons pd_str (pd_cons pd_str (pd_cons pd_str (pd_cons pd_str (pd_cons pd_str (pd_cons pd_str (pd_cons (pd_tup pd_nil rfl (by decide)) (pd_cons (pd_lst pd_nil rfl (by decide)) (pd_cons pd_d0 (pd_cons (pd_tup (pd_cons pd_str pd_nil) rfl (by decide)) pd_nil)))))))))))))))))))))
      (pss_cons (ps_set (i := 1) sc_odd.nd rfl (.inl rfl) (pe_op op_cat (pv 1) (pe_lst (pd_cons (pd_lst (pd_cons pd_str pd_nil) rfl (by decide)) (pd_cons (pd_tup (pd_cons pd_int pd_nil) rfl (by decide)) (pd_cons (pd_tup (pd_cons pd_int (pd_cons pd_int pd_nil)) rfl (by decide)) (pd_cons (pd_lst (pd_cons pd_int pd_nil) rfl (by decide)) (pd_cons (pd_tup (pd_cons (pd_tup (pd_cons pd_str pd_nil) rfl (by decide)) pd_nil) rfl (by decide)) (pd_cons pd_d1 (pd_cons (pd_tup (pd_cons pd_str (pd_cons pd_int pd_nil)) rfl (by decide)) (pd_cons (pd_tup (pd_cons pd_str (pd_cons pd_non pd_nil)) rfl (by decide)) (pd_cons (pd_tup (pd_cons pd_str (pd_cons (pd_tup pd_nil rfl (by decide)) pd_nil)) rfl (by decide)) (pd_cons (pd_tup (pd_cons pd_non pd_nil) rfl (by decide)) pd_nil)))))))))))))
      (pss_one (ps_ret (pe_dn DP hr (by rfl) (pa_cons (pv 0) (pa_cons (pe_op op_cat (pv 1) (pe_lst (pd_cons (pd_tup (pd_cons pd_bl pd_nil) rfl (by decide)) (pd_cons (pd_tup (pd_cons pd_str (pd_cons pd_int pd_nil)) rfl (by decide)) (pd_cons pd_str (pd_cons (pd_tup (pd_cons pd_int (pd_cons pd_int pd_nil)) rfl (by decide)) (pd_cons (pd_tup (pd_cons (pd_tup (pd_cons pd_str (pd_cons pd_int pd_nil)) rfl (by decide)) pd_nil) rfl (by decide)) (pd_cons (pd_lst (pd_cons (pd_tup pd_nil rfl (by decide)) pd_nil) rfl (by decide)) (pd_cons pd_int pd_nil))))))))) pa_nil)))))), ?_⟩
    intro vs1 H1 s1 x1
    refine ⟨by rw [x1.length]; show 19 ≤ sizeLine; decide, fun l1 n1 => ?_⟩
    have t1 : Same H (L2.upd H1 l1 (.lst vs1)) := fun b o e => (upd_ne (ne_of_none (s1 _ _ e) n1)).trans (s1 _ _ e)
    have u1 : Same H1 (L2.upd H1 l1 (.lst vs1)) := fun b o e => (upd_ne (ne_of_none e n1)).trans e
    refine ⟨_, rfl, fun vs2 H2 s2 x2 => ⟨by rw [x2.length]; show 10 ≤ sizeLine; decide, fun l2 n2 => ?_⟩⟩
    have u2 : Same H2 (L2.upd H2 l2 (.lst vs2)) := fun b o e => (upd_ne (ne_of_none e n2)).trans e
    refine ⟨l1, l2, vs1, vs2, rfl, rfl, u2 _ _ (s2 _ _ upd_same), upd_same, by rw [x1.length, x2.length]; show 29 ≤ sizeLine; decide, fun l3 n3 => ?_⟩
    have u3 := fun b o (e : (L2.upd H2 l2 (.lst vs2)) b = some o) => (upd_ne (o := HO.lst (vs1 ++ vs2)) (ne_of_none e n3)).trans e
    refine ⟨.ref D, rfl, _, rfl, fun vs4 H4 s4 x4 => ⟨by rw [x4.length]; show 7 ≤ sizeLine; decide, fun l4 n4 => ?_⟩⟩
    have u4 : Same H4 (L2.upd H4 l4 (.lst vs4)) := fun b o e => (upd_ne (ne_of_none e n4)).trans e
    refine ⟨l3, l4, vs1 ++ vs2, vs4, rfl, rfl, u4 _ _ (s4 _ _ upd_same), upd_same, by rw [List.length_append, x1.length, x2.length, x4.length]; show 36 ≤ sizeLine; decide, fun l5 n5 => ?_⟩
    have u5 := fun b o (e : (L2.upd H4 l4 (.lst vs4)) b = some o) => (upd_ne (o := HO.lst (vs1 ++ vs2 ++ vs4)) (ne_of_none e n5)).trans e
    have a2 : Same H2 (L2.upd (L2.upd H4 l4 (.lst vs4)) l5 (.lst (vs1 ++ vs2 ++ vs4))) := fun b o e => u5 _ _ (u4 _ _ (s4 _ _ (u3 _ _ (u2 _ _ e))))
    have a1 : Same H1 (L2.upd (L2.upd H4 l4 (.lst vs4)) l5 (.lst (vs1 ++ vs2 ++ vs4))) := fun b o e => a2 _ _ (s2 _ _ (u1 _ _ e))
    have a0 : Same H (L2.upd (L2.upd H4 l4 (.lst vs4)) l5 (.lst (vs1 ++ vs2 ++ vs4))) := fun b o e => a1 _ _ (s1 _ _ e)
    have a4 : Same H4 (L2.upd (L2.upd H4 l4 (.lst vs4)) l5 (.lst (vs1 ++ vs2 ++ vs4))) := fun b o e => u5 _ _ (u4 _ _ e)
    have b2 : Same H (L2.upd H2 l2 (.lst vs2)) := fun b o e => u2 _ _ (s2 _ _ (t1 _ _ e))
    have b4 : Same H H4 := fun b o e => s4 _ _ (u3 _ _ (b2 _ _ e))
    have b3 : Same H (L2.upd (L2.upd H2 l2 (.lst vs2)) l3 (.lst (vs1 ++ vs2))) := fun b o e => u3 _ _ (b2 _ _ e)
    have xs : DxAll K (New H (L2.upd (L2.upd H4 l4 (.lst vs4)) l5 (.lst (vs1 ++ vs2 ++ vs4)))) (vs1 ++ vs2 ++ vs4) (odds1 ++ odds2 ++ odds3) := ((x1.same (new1 a1)).append (x2.same (fun b o e => new1 a2 _ _ (new2 t1 _ _ e)))).append (x4.same (fun b o e => new1 a4 _ _ (new2 b3 _ _ e)))
    have T5 : Tape (L2.upd (L2.upd H4 l4 (.lst vs4)) l5 (.lst (vs1 ++ vs2 ++ vs4))) D p := T.same a0
    refine ⟨D, .ref l5, vs1 ++ vs2 ++ vs4, p, rfl, T5, hp, .inl ⟨l5, rfl, SqL.of upd_same⟩, ?_, ?_, fun x p' H' hx T' hp' o => ?_⟩
    · intro z
      have := xs.length
      rw [z] at this
      exact absurd this (by decide)
    · rw [xs.length]
      show 36 < 1073741824
      decide
    · obtain ⟨d, hd, hx⟩ := xs.mem hx
      obtain ⟨c, ns, l, hD, _⟩ := T
      exact k x d p' H' (hx.same (newO o hD)) (odds_short d hd) T' hp' ((Off.of_same a0).trans o)
end Ask
namespace Ask
open PySem L2 PySem.Spec PyProof.Rows PySem.AskX LamX NdefX
theorem boot_repr : bootBuiltins ("repr" : Str) = some (.builtin "repr") := by decide +kernel
structure Defs (P : Program) (w : World) (K : PySem.W.Frag) (mg : Str → Option Value) (base : Heap) (cs : List Addr) (T : List (Addr × Str)) : Prop where
  beg : Dn P w K mg base 1 "_law_begin" ["_law_script"] (spBegin K)
  odd : Dn P w K mg base 3 "_law_odd" ["_law_tape"] (spOdd K)
  ve : Dn P w K mg base 3 "_law_value_errors" ["_law_x", "_law_y"] (spMk P w K mg base cs T 0 vVE)
  me : Dn P w K mg base 3 "_law_more_value_errors" ["_law_x", "_law_y"] (spMk P w K mg base cs T 12 vME)
  oe : Dn P w K mg base 3 "_law_other_errors" ["_law_x", "_law_y"] (spMk P w K mg base cs T 22 vOE)
  vk : Dn P w K mg base 1 "_law_value_kinds" ["_law_e"] (spKd K cs bVK)
  mok : Dn P w K mg base 1 "_law_more_value_kinds" ["_law_e"] (spKd K cs bMK)
  ok : Dn P w K mg base 1 "_law_other_kinds" ["_law_e"] (spKd K cs bOK)
  bas : Dn P w K mg base 1 "_law_bases" ["_law_e"] (spKd K cs bBas)
theorem neF {x y : V} {A B : Prop} (h : x = y) (k : B) : if (!decide (x = y)) = true then A else B := by
  subst h
  rw [decide_eq_true rfl]
  exact iteF k
theorem neS {x y : Str} {A B : Prop} (h : x = y) (k : B) : if (!decide (V.str x = V.str y)) = true then A else B := neF (congrArg V.str h) k
section
variable {K : PySem.W.Frag} {H H1 : Hp}
mutual
theorem dpX (x : ExtN H H1) : ∀ {v : V} {d : PyData}, Dp K H v d → Dp K H1 v d
  | _, _, .non => .non
  | _, _, .bl b => .bl b
  | _, _, .int i => .int i
  | _, _, .str z => .str z
  | _, _, .lst h r => .lst (by
      rcases h with (h | ⟨u, h⟩) | h
      · exact .inl (.inl (x _ _ h (fun _ z => nomatch z)))
      · exact .inl (.inr ⟨u, x _ _ h (fun _ z => nomatch z)⟩)
      · exact .inr h) (dpsX x r)
  | _, _, .tup h r => .tup (by
      rcases h with (h | ⟨u, h⟩) | h
      · exact .inl (.inl (x _ _ h (fun _ z => nomatch z)))
      · exact .inl (.inr ⟨u, x _ _ h (fun _ z => nomatch z)⟩)
      · exact .inr h) (dpsX x r)
theorem dpsX (x : ExtN H H1) : ∀ {vs : List V} {ds : List PyData}, DpAll K H vs ds → DpAll K H1 vs ds
  | _, _, .nil => .nil
  | _, _, .cons a r => .cons (dpX x a) (dpsX x r)
end
theorem Dx.ext (x : ExtN H H1) {v : V} {d : PyData} (h : Dx K H v d) : Dx K H1 v d := by
  cases h with
  | dp h e => exact .dp (dpX x h) e
  | d0 h => exact .d0 (x _ _ h (fun _ z => nomatch z))
  | d1 h => exact .d1 (x _ _ h (fun _ z => nomatch z))
end
theorem tYes_go {σ : L2.St} {H : Hp} {A B : Hp → Prop} (h : A H) : tYes σ H (fun b H3 => if b = true then A H3 else B H3) := by
  unfold tYes
  exact iteT h
/-! ### lists that are made of lists -/
def Gives (t : TE) (xs : List V) : Prop := ∀ σ H Q, (∀ l H1, Same H H1 → H1 l = some (.lst xs) → Q (.ref l) H1) → t σ H Q
theorem newS {H : Hp} {a : Addr} (h : H a = none) (o : HO) : Same H (L2.upd H a o) := fun b u e => (upd_ne (ne_of_none e h)).trans e
theorem rep_flat (v : V) : ∀ n : Nat, (List.replicate n [v]).flatten = List.replicate n v
  | 0 => rfl
  | n + 1 => by rw [List.replicate_succ, List.replicate_succ, List.flatten_cons, rep_flat v n]; rfl
theorem Gives.rep {v : V} {n : Nat} (h : n ≤ 1000) : Gives (tOp rRep (tLst (tCons (tC v) tNil)) (tC (.int n))) (List.replicate n v) := by
  intro σ H Q k
  refine ⟨(by decide : 1 ≤ sizeLine), fun l hl => ⟨l, n, [v], rfl, rfl, upd_same, by omega, by omega, ?_, fun p hp => ?_⟩⟩
  · have : sizeLine = 16777216 := by decide
    rw [this, Int.toNat_natCast]
    show 1 * n ≤ 16777216
    omega
  · refine k p _ (fun b o e => newS hp _ _ _ (newS hl _ _ _ e)) ?_
    rw [upd_same, Int.toNat_natCast]
    rw [rep_flat]
theorem Gives.cat {ta tb : TE} {xs ys : List V} (ga : Gives ta xs) (gb : Gives tb ys) (h : xs.length + ys.length ≤ 1000) : Gives (tOp rCat ta tb) (xs ++ ys) := by
  intro σ H Q k
  refine ga σ H _ fun l H1 s1 e1 => gb σ H1 _ fun r H2 s2 e2 => ?_
  exact ⟨l, r, xs, ys, rfl, rfl, s2 _ _ e1, e2, Nat.le_trans h (by decide), fun p hp => k p _ (fun b o e => newS hp _ _ _ (s2 _ _ (s1 _ _ e))) upd_same⟩
def plL : List V := List.replicate 22 (.int 0) ++ List.replicate 5 (.int 2) ++ List.replicate 4 (.int 1) ++ List.replicate 1 (.int 3) ++ List.replicate 4 (.int 4)
theorem pl_at : ∀ i, i < 36 → plL[i]? = some (.int (gOf i)) := by decide +kernel
theorem kinds_at : ∀ i, i < 36 → (List.range 36).map (fun j => j == i) = bVK i ++ bMK i ++ bOK i := by decide +kernel
theorem bases_at : ∀ i, i < 36 → (List.range 5).map (fun j => gOf i == j) = bBas i := by decide +kernel
theorem tabs_off {T : List (Addr × Str)} {H H1 : Hp} {D : Addr} {kvs : List (Key × V)} (t : Tabs T H) (o : Off H H1 D) (hd : H D = some (.dK kvs)) : Tabs T H1 := fun p hp => by
  obtain ⟨ps, h1, h2, h3⟩ := t p hp
  refine ⟨ps, o _ _ h1 (ne_of h1 hd (by intro z; cases z)), h2, fun pos cv hc => ?_⟩
  obtain ⟨c, e1, e2⟩ := h3 pos cv hc
  exact ⟨c, e1, o _ _ e2 (ne_of e2 hd (by intro z; cases z))⟩
theorem dec_nat (a b : Nat) : decide (V.int (a : Int) = V.int (0 + (b : Int))) = (a == b) := by
  rw [Bool.eq_iff_iff]
  simp only [decide_eq_true_eq, beq_iff_eq, V.int.injEq]
  omega
theorem dec_nat2 (a b : Nat) : decide (V.int (0 + (a : Int)) = V.int (0 + (b : Int))) = (a == b) := by
  rw [Bool.eq_iff_iff]
  simp only [decide_eq_true_eq, beq_iff_eq, V.int.injEq]
  omega
theorem eqv_bls : ∀ bs : List Bool, PyData.eqvAll (bs.map .bool) (bs.map .bool) = true
  | [] => by simp [PyData.eqvAll]
  | b :: r => by simp [PyData.eqvAll, PyData.eqv, eqv_bls r]
theorem dp_bls {K : PySem.W.Frag} {H : Hp} : ∀ bs : List Bool, DpAll K H (bs.map V.bl) (bs.map .bool)
  | [] => .nil
  | b :: r => .cons (.bl b) (dp_bls r)
theorem shaped_bls (bs : List Bool) : SeqAt.shaped (.list (bs.map .bool)) = true := by
  have h1 : ∀ bs : List Bool, PyData.canLayAll0 (bs.map .bool) = true ∧ PyData.depthAll (bs.map .bool) ≤ 1 := by
    intro bs
    induction bs with
    | nil => exact ⟨by simp [PyData.canLayAll0], by simp [PyData.depthAll]⟩
    | cons b r ih => exact ⟨by simp [PyData.canLayAll0, PyData.canLay0, ih.1], by simp only [List.map_cons, PyData.depthAll, PyData.depth]; omega⟩
  obtain ⟨a1, a2⟩ := h1 bs
  unfold SeqAt.shaped
  simp only [PyData.canLay0, PyData.depth, Bool.and_eq_true, decide_eq_true_eq]
  exact ⟨a1, decide_eq_true (by omega)⟩
/-- two lists of the same bools do not differ -/
theorem ne_bls {K : PySem.W.Frag} {H : Hp} {a b : Addr} {bs : List Bool} {Q : VK} (ha : H a = some (.lst (bs.map V.bl))) (hb : H b = some (.lst (bs.map V.bl))) (q : Q (.bl false) H) : rNeD K (.ref a) (.ref b) H Q := by
  refine ⟨.list (bs.map .bool), .list (bs.map .bool), .lst (.of ha) (dp_bls bs), .lst (.of hb) (dp_bls bs), shaped_bls bs, shaped_bls bs, ?_⟩
  have e : PyData.eqv (.list (bs.map .bool)) (.list (bs.map .bool)) = true := by
    simp only [PyData.eqv]
    exact eqv_bls bs
  rw [e]
  exact q
theorem text_len (ts : List Str) (h : ts.length ≤ 2) (hs : ∀ t ∈ ts, t.length ≤ 1000) : (listText ts).length ≤ 100000 := by
  match ts, h with
  | [], _ => rw [listText_nil]; decide
  | [a], _ =>
    have ha := hs a (.head _)
    have e1 : ("[" : Str).length = 1 := by decide
    have e2 : ("]" : Str).length = 1 := by decide
    have e3 : ("" : Str).length = 0 := by decide
    show (((("[" : Str) ++ ("" : Str)) ++ a) ++ ("]" : Str)).length ≤ 100000
    rw [strLen_append, strLen_append, strLen_append, e1, e2, e3]
    omega
  | [a, b], _ =>
    have ha := hs a (.head _)
    have hb := hs b (.tail _ (.head _))
    have e1 : ("[" : Str).length = 1 := by decide
    have e2 : ("]" : Str).length = 1 := by decide
    have e3 : ("" : Str).length = 0 := by decide
    have e4 : (", " : Str).length = 2 := by decide
    show ((((((("[" : Str) ++ ("" : Str)) ++ a) ++ (", " : Str)) ++ b)) ++ ("]" : Str)).length ≤ 100000
    rw [strLen_append, strLen_append, strLen_append, strLen_append, strLen_append, e1, e2, e3, e4]
    omega
/-- the fields of an item as data -/
theorem flds {K : PySem.W.Frag} {H : Hp} {x y : V} {dx dy : PyData} (hx : Dx K H x dx) (hy : Dx K H y dy) (sx : dx.showable = true ∧ dx.depth ≤ 20 ∧ dx.shown.length ≤ 1000) (sy : dy.showable = true ∧ dy.depth ≤ 20 ∧ dy.shown.length ≤ 1000) :
    ∀ i, i < 36 → ∃ ys ds, (vVE x y ++ vME x y ++ vOE x y)[i]? = some ys ∧ DxAll K H ys ds ∧ shortAll ds ∧ (listText (PyData.shownAll ds)).length ≤ 100000 := by
  have c0 : ∃ ds, DxAll K H [] ds ∧ shortAll ds ∧ (listText (PyData.shownAll ds)).length ≤ 100000 := ⟨[], .nil, (by intro d m; cases m), by
    show (listText []).length ≤ 100000
    exact text_len [] (by decide) (by intro t m; cases m)⟩
  have c1 : ∃ ds, DxAll K H [x] ds ∧ shortAll ds ∧ (listText (PyData.shownAll ds)).length ≤ 100000 := ⟨[dx], .cons hx .nil, fun d m => by rw [List.mem_singleton.mp m]; exact sx, by
    simp only [PyData.shownAll]
    exact text_len [dx.shown] (Nat.le_of_ble_eq_true rfl) (fun t m => by rw [List.mem_singleton.mp m]; exact sx.2.2)⟩
  have c2 : ∃ ds, DxAll K H [x, y] ds ∧ shortAll ds ∧ (listText (PyData.shownAll ds)).length ≤ 100000 := ⟨[dx, dy], .cons hx (.cons hy .nil), fun d m => by
    rcases List.mem_cons.mp m with e | m
    · rw [e]; exact sx
    · rw [List.mem_singleton.mp m]; exact sy, by
    simp only [PyData.shownAll]
    refine text_len [dx.shown, dy.shown] (Nat.le_of_ble_eq_true rfl) (fun t m => ?_)
    rcases List.mem_cons.mp m with e | m
    · rw [e]; exact sx.2.2
    · rw [List.mem_singleton.mp m]; exact sy.2.2⟩
  have all : ∀ ys ∈ vVE x y ++ vME x y ++ vOE x y, ys = [] ∨ ys = [x] ∨ ys = [x, y] := by
    intro ys m
    simp only [vVE, vME, vOE, List.cons_append, List.nil_append, List.mem_cons, List.not_mem_nil, or_false] at m
    revert m
    intro m
    rcases m with m | m | m | m | m | m | m | m | m | m | m | m | m | m | m | m | m | m | m | m | m | m | m | m | m | m | m | m | m | m | m | m | m | m | m | m <;> simp [m]
  intro i hi
  have hl : i < (vVE x y ++ vME x y ++ vOE x y).length := hi
  have e := List.getElem?_eq_getElem hl
  rcases all _ (List.mem_of_getElem? e) with z | z | z
  · obtain ⟨ds, h⟩ := c0
    exact ⟨[], ds, z ▸ e, h⟩
  · obtain ⟨ds, h⟩ := c1
    exact ⟨[x], ds, z ▸ e, h⟩
  · obtain ⟨ds, h⟩ := c2
    exact ⟨[x, y], ds, z ▸ e, h⟩
abbrev n_law : List Str := ["_law_script", "_law_tape", "_law_x", "_law_y", "_law_told", "_law_places", "_law_at", "_law_error", "_law_due", "_law_asked", "_law_kinds", "_law_k"]
theorem sc_law : FnScope n_law ["_law_script"] (defScope sLaw) := ⟨rfl, rfl, rfl, by decide +kernel, rfl, by decide +kernel, by decide +kernel⟩
theorem law_body {P : Program} {w : World} {K : PySem.W.Frag} {mg : Str → Option Value} {base : Heap} {cs : List Addr} {T : List (Addr × Str)} (B : Blt mg) (D : Defs P w K mg base cs T) (hcs : cs.length = 36) {f : Addr} {cdv : Value} {s₁ : Shared} {H : Hp} {a : Addr} {ns : List Int} (tT : Tabs T H) (hS : SqL K H a (ns.map V.int))
    (hr : Room 4 (callerA.deeper (PyProof.Rows.envOfC "law" (defScope sLaw) s₁.heap.objs.size f cdv))) (hg : (callerA.deeper (PyProof.Rows.envOfC "law" (defScope sLaw) s₁.heap.objs.size f cdv)).guards = some []) :
    ∃ t, PSs (cxOf CX0 P w K mg base n_law "law" (defScope sLaw) f cdv callerA [] s₁ H fun _ _ _ => False).nox (defBody sLaw) t ∧ t { nx := fun _ _ => V.non = V.bl true, rt := fun v _ => v = .bl true } (start n_law [.ref a]) H := by
  have hr1 : Room 1 _ := hr.mono (by decide)
  have hr2 : Room 2 _ := hr.mono (by decide)
  have hr3 : Room 3 _ := hr.mono (by decide)
  have hu : (callerA.deeper (PyProof.Rows.envOfC "law" (defScope sLaw) s₁.heap.objs.size f cdv)).units + 30 < cLine := by have := hr.un; omega
  refine ⟨_, (pss_cons (ps_set (i := 1) sc_law.nd rfl (Or.inr rfl) (pe_dn D.beg hr1 (by rfl) (pa_cons (pv 0) pa_nil)))
      (pss_cons (ps_asg (pe_lc (own := [("_law_k", 11)]) (g := gName 11) (tt := tYes) rfl sc_law.nd (pi_range1 (by rfl) B.range (pa_cons pe_int pa_nil)) (blkOk_by (own := [("_law_k", 11)]) (N := n_law) (sc := (defScope sLaw)) (by decide +kernel)) (fun _ _ _ _ _ => pg_name (i := 11) sc_law.nd rfl (Or.inl rfl)) (fun _ _ _ _ _ => pts_nil) (fun _ _ _ _ _ => (pe_dn D.odd hr3 (by rfl) (pa_cons (pv 1) pa_nil)))) (pg_lst (by rfl) (pgs_cons (pg_name (i := 2) sc_law.nd rfl (Or.inl rfl)) (pgs_cons (pg_name (i := 3) sc_law.nd rfl (Or.inl rfl)) pgs_nil))))
      (pss_cons (ps_set (i := 4) sc_law.nd rfl (Or.inl rfl) (pe_op op_cat (pe_op op_cat (pe_dn D.ve hr3 (by rfl) (pa_cons (pv 2) (pa_cons (pv 3) pa_nil))) (pe_dn D.me hr3 (by rfl) (pa_cons (pv 2) (pa_cons (pv 3) pa_nil)))) (pe_dn D.oe hr3 (by rfl) (pa_cons (pv 2) (pa_cons (pv 3) pa_nil)))))
      (pss_cons (ps_set (i := 5) sc_law.nd rfl (Or.inr rfl) (pe_op op_cat (pe_op op_cat (pe_op op_cat (pe_op op_cat (pe_op op_rep (pe_lst (pa_cons pe_int pa_nil)) pe_int) (pe_op op_rep (pe_lst (pa_cons pe_int pa_nil)) pe_int)) (pe_op op_rep (pe_lst (pa_cons pe_int pa_nil)) pe_int)) (pe_op op_rep (pe_lst (pa_cons pe_int pa_nil)) pe_int)) (pe_op op_rep (pe_lst (pa_cons pe_int pa_nil)) pe_int)))
      (pss_cons (ps_for PassesOwn.never rfl (pi_range1 (by rfl) B.range (pa_cons (pe_callB call_len (by rfl) B.len PySem.boot_len (pa_cons (pv 4) pa_nil)) pa_nil)) (pg_name (i := 6) sc_law.nd rfl (Or.inr rfl))
      (pss_cons (ps_asg (pe_ix (r := rIxL K) ix_list (pv 4) (pv 6) (fun _ _ => rfl)) (pg_tup (by rfl) (pgs_cons (pg_name (i := 7) sc_law.nd rfl (Or.inl rfl)) (pgs_cons (pg_name (i := 8) sc_law.nd rfl (Or.inl rfl)) (pgs_cons (pg_name (i := 9) sc_law.nd rfl (Or.inl rfl)) pgs_nil)))))
      (pss_cons (ps_if (pw_or (pt_cmpR op_ne (pe_callB (call_repr_dx hg hu) (by rfl) B.repr boot_repr (pa_cons (pe_callLm (k := 2) (i := 9) hr2 rfl (.inl rfl) (pa_cons (pv 7) pa_nil)) pa_nil)) (pe_callB (call_repr_dx hg hu) (by rfl) B.repr boot_repr (pa_cons (pv 8) pa_nil)) (nomark _)) (pw_or1 (pt_cmpR (op_neD hr.units) (pe_dn D.bas hr1 (by rfl) (pa_cons (pv 7) pa_nil)) (pe_lc (own := [("_law_k", 11)]) (g := gName 11) (tt := tYes) rfl sc_law.nd (pi_range1 (by rfl) B.range (pa_cons pe_int pa_nil)) (blkOk_by (own := [("_law_k", 11)]) (N := n_law) (sc := (defScope sLaw)) (by decide +kernel)) (fun _ _ _ _ _ => pg_name (i := 11) sc_law.nd rfl (Or.inl rfl)) (fun _ _ _ _ _ => pts_nil) (fun _ _ _ _ _ => (pe_cmpR op_eq (pe_ix (r := rIxL K) ix_list (pv 5) (pv 6) (fun _ _ => rfl)) (pv 11) rfl))) (nomark _)))).pt (pss_one (ps_ret pe_bl)) pss_nil)
      (pss_cons (ps_set (i := 10) sc_law.nd rfl (Or.inl rfl) (pe_op op_cat (pe_op op_cat (pe_dn D.vk hr1 (by rfl) (pa_cons (pv 7) pa_nil)) (pe_dn D.mok hr1 (by rfl) (pa_cons (pv 7) pa_nil))) (pe_dn D.ok hr1 (by rfl) (pa_cons (pv 7) pa_nil))))
      (pss_one (ps_if (pt_cmpR (op_neD hr.units) (pv 10) (pe_lc (own := [("_law_k", 11)]) (g := gName 11) (tt := tYes) rfl sc_law.nd (pi_range1 (by rfl) B.range (pa_cons (pe_callB call_len (by rfl) B.len PySem.boot_len (pa_cons (pv 4) pa_nil)) pa_nil)) (blkOk_by (own := [("_law_k", 11)]) (N := n_law) (sc := (defScope sLaw)) (by decide +kernel)) (fun _ _ _ _ _ => pg_name (i := 11) sc_law.nd rfl (Or.inl rfl)) (fun _ _ _ _ _ => pts_nil) (fun _ _ _ _ _ => (pe_cmpR op_eq (pv 11) (pv 6) rfl))) (nomark _)) (pss_one (ps_ret pe_bl)) pss_nil))))))
      (pss_one (ps_ret pe_bl))))))), ?_⟩
  refine ⟨_, rfl, a, ns, rfl, hS, fun d H0 hd0 T0 s0 => ?_⟩
  have tT0 : Tabs T H0 := tT.ext s0
  -- the two values
  refine ⟨2, rfl, by decide, by decide, fun DV hDV => ?_⟩
  obtain ⟨kv0, hd00⟩ := T0.at
  have ndV : d ≠ DV := ne_of_none hd00 hDV
  refine lc_it walk_range (fun i2 H3 => ∃ (p3 : Int) (vs : List V), Tape H3 d p3 ∧ p3 ≤ i2 ∧ Off H0 H3 d ∧ H3 DV = some (.lst vs) ∧ vs.length = i2 ∧ ∀ v ∈ vs, ∃ (dd : PyData) (R : Hp), Dx K R v dd ∧ (dd.showable = true ∧ dd.depth ≤ 20 ∧ dd.shown.length ≤ 1000) ∧ Same R H3 ∧ R DV = none ∧ R d = none)
    ⟨0, [], T0.new hDV _, by omega, (Off.refl _ _).new hDV _, upd_same, rfl, fun _ h => (List.not_mem_nil h).elim⟩ (fun _ _ _ _ => trivial) ?_ ?_
  · rintro i2 y H3 H4 hi2 ⟨p3, vs, T3, hp3, o3, hD3, hvs, hV⟩ ⟨rfl, rfl⟩
    refine ⟨rfl, ?_⟩
    refine tYes_go ?_
    refine ⟨_, rfl, d, p3, rfl, T3, by omega, fun v dd p4 H5 hx hsx T5 hp5 o5 => ?_⟩
    have hD5 : H5 DV = some (.lst vs) := o5 _ _ hD3 ndV.symm
    obtain ⟨kv3, hd3⟩ := T3.at
    refine ⟨vs, hD5, small1000 (by omega), p4, vs ++ [v], T5.fresh T0 (o3.trans o5) hDV _, by omega, (o3.trans o5).fresh hDV ndV _, upd_same, by rw [List.length_append, hvs]; rfl, fun z hz => ?_⟩
    rcases List.mem_append.mp hz with hz | hz
    · obtain ⟨dz, R, e1, e2, e3, e4, e5⟩ := hV z hz
      refine ⟨dz, R, e1, e2, fun b o e => ?_, e4, e5⟩
      have n1 : b ≠ d := fun q => by rw [q, e5] at e; cases e
      have n2 : b ≠ DV := fun q => by rw [q, e4] at e; cases e
      exact (upd_ne n2).trans (o5 _ _ (e3 _ _ e) n1)
    · rw [List.mem_singleton.mp hz]
      refine ⟨dd, New H4 H5, hx, hsx, fun b o e => ?_, ?_, ?_⟩
      · obtain ⟨q1, q2⟩ := new_of e
        exact (upd_ne (fun q => by rw [q, hD3] at q1; cases q1)).trans q2
      · unfold New; rw [hD3]
      · unfold New; rw [hd3]
  rintro H3 ⟨p3, vs, T3, hp3, o3, hD3, hvs, hV⟩
  obtain ⟨x, y, rfl⟩ : ∃ x y, vs = [x, y] := by
    match vs, hvs with
    | [x, y], _ => exact ⟨x, y, rfl⟩
  obtain ⟨ddx, R1, x1, x2, x3, _⟩ := hV x (.head _)
  obtain ⟨ddy, R2, y1, y2, y3, _⟩ := hV y (.tail _ (.head _))
  have X3 := x1.same x3
  have Y3 := y1.same y3
  have tT3 : Tabs T H3 := tabs_off tT0 o3 hd00
  refine ⟨DV, [x, y], rfl, .of hD3, rfl, x, [y], rfl, y, [], rfl, rfl, ?_⟩
  -- the errors
  refine ⟨_, rfl, _, rfl, x, y, rfl, tT3, fun l1 ts1 H4 g4 i4 e4 => ?_⟩
  refine ⟨_, rfl, _, rfl, x, y, rfl, g4.tabs, fun l2 ts2 H5 g5 i5 e5 => ?_⟩
  have n1 : ts1.length = 12 := i4.length
  have n2 : ts2.length = 10 := i5.length
  refine ⟨l1, l2, ts1, ts2, rfl, rfl, g5.ext _ _ e4 (fun _ z => nomatch z), e5, by rw [n1, n2]; decide, fun l3 h3 => ?_⟩
  have g6 : Grow T H5 (L2.upd H5 l3 (.lst (ts1 ++ ts2))) := .put g5.tabs h3 _
  refine ⟨_, rfl, _, rfl, x, y, rfl, g6.tabs, fun l4 ts3 H7 g7 i7 e7 => ?_⟩
  have n3 : ts3.length = 14 := i7.length
  refine ⟨l3, l4, ts1 ++ ts2, ts3, rfl, rfl, g7.ext _ _ upd_same (fun _ z => nomatch z), e7, by rw [List.length_append, n1, n2, n3]; decide, fun l5 h5 => ?_⟩
  have x57 : ExtN H5 H7 := g6.ext.trans g7.ext
  have x47 : ExtN H4 H7 := g5.ext.trans x57
  have x37 : ExtN H3 H7 := g4.ext.trans x47
  have I7 : Items P w K mg base cs H7 0 (ts1 ++ ts2 ++ ts3) (vVE x y ++ vME x y ++ vOE x y) := ((i4.ext x47).append (by rw [n1]) (i5.ext x57)).append (by rw [List.length_append, n1, n2]) i7
  have hlen : (ts1 ++ ts2 ++ ts3).length = 36 := by rw [List.length_append, List.length_append, n1, n2, n3]
  -- the places
  refine (((((Gives.rep (v := .int 0) (n := 22) (by decide)).cat (Gives.rep (v := .int 2) (n := 5) (by decide)) (by decide)).cat (Gives.rep (v := .int 1) (n := 4) (by decide)) (by decide)).cat (Gives.rep (v := .int 3) (n := 1) (by decide)) (by decide)).cat (Gives.rep (v := .int 4) (n := 4) (by decide)) (by decide)) _ _ _ fun lp H8 s8 e8 => ?_
  have eL : H8 l5 = some (.lst (ts1 ++ ts2 ++ ts3)) := s8 _ _ upd_same
  have x78 : ExtN H7 H8 := .of fun b o e => s8 _ _ (newS h5 _ _ _ e)
  have I8 := I7.ext x78
  have X8 : Dx K H8 x ddx := (X3.ext x37).ext x78
  have Y8 : Dx K H8 y ddy := (Y3.ext x37).ext x78
  have e8 : H8 lp = some (.lst plL) := e8
  have lenL : ∀ {H' : Hp}, Same H8 H' → LenV K (.ref l5) H' 36 := fun s => by
    have := Seq3.len (K := K) (.inl ⟨l5, rfl, SqL.of (s _ _ eL)⟩)
    rw [hlen] at this
    exact this
  -- one by one
  refine ⟨_, rfl, .ref l5, 36, rfl, lenL (Same.refl _), 36, rfl, by decide, by decide, for_range (n := 36) (fun i σ H1 => ∃ u6 u7 u8 u9 u10, σ = [some (.ref a), some (.ref d), some x, some y, some (.ref l5), some (.ref lp), u6, u7, u8, u9, u10, none] ∧ Same H8 H1) ⟨none, none, none, none, none, rfl, Same.refl _⟩ ?_ ?_⟩
  · rintro i σ H1 hi ⟨u6, u7, u8, u9, u10, rfl, s1⟩
    obtain ⟨ys, ds, hys, dxs, short, tl⟩ := flds X8 Y8 x2 y2 i hi
    obtain ⟨t, ht, It⟩ := I8.get hys
    rw [Nat.zero_add] at It
    obtain ⟨e, b, fl, C, dd, F, sp, a1, a2, a3, a4, a5, a6, a7, a8⟩ := It.ext (.of s1) |>.ex
    have ixi : atI (ts1 ++ ts2 ++ ts3) (0 + (i : Int)) = some (.ref t) := at_of (j := i) (by omega) ht
    refine ⟨_, rfl, _, rfl, l5, _, 0 + (i : Int), .ref t, rfl, rfl, SqL.of (s1 _ _ eL), ixi, ?_⟩
    refine ⟨t, _, rfl, .inl (.inl a1), rfl, .ref e, _, rfl, .ref b, _, rfl, .ref fl, [], rfl, rfl, ?_⟩
    -- the fields
    refine ⟨fl, F, ["_law_e"], sp, rfl, a7, a5, _, rfl, a5, a6, a8 H1 _ (.refl H1) fun r hr0 => ?_⟩
    have s2 : Same H1 (L2.upd H1 r (.lst ys)) := newS hr0 _
    have s02 : Same H8 (L2.upd H1 r (.lst ys)) := s1.trans s2
    refine ⟨r, ys, ds, rfl, upd_same, dxs.same s02, short, tl, ?_⟩
    refine ⟨_, rfl, b, ys, ds, rfl, s2 _ _ a4, dxs.same s02, short, tl, ?_⟩
    refine ⟨rfl, _, rfl, neS rfl ?_⟩
    -- Python's own classes
    generalize L2.upd H1 r (.lst ys) = H2 at s2 s02 ⊢
    have E2 := a3.same s2
    refine ⟨_, rfl, e, C, i, dd, rfl, a2, E2, fun rb H3 s3 hb3 => ?_⟩
    have E3 := E2.same s3
    have s03 := s02.trans s3
    refine ⟨5, rfl, by decide, by decide, fun D1 hD1 => ?_⟩
    refine lc_it walk_range (fun k H' => Same H3 H' ∧ H' D1 = some (.lst ((List.range k).map fun j => V.bl (gOf i == j)))) ⟨newS hD1 _, upd_same⟩ (fun _ _ _ _ => trivial) ?_ ?_
    · rintro k z H4 H5 hk ⟨s4, h4⟩ ⟨rfl, rfl⟩
      refine ⟨rfl, ?_⟩
      refine tYes_go ?_
      have pli : atI plL (0 + (i : Int)) = some (.int (gOf i)) := at_of (j := i) (by omega) (pl_at i hi)
      refine ⟨_, rfl, _, rfl, lp, plL, 0 + (i : Int), .int (gOf i), rfl, rfl, SqL.of ((s03.trans s4) _ _ e8), pli, _, rfl, rfl, ?_⟩
      refine ⟨_, h4, small1000 (by rw [List.length_map, List.length_range]; have : k < 5 := hk; omega), fun b o q => (upd_ne (ne_of_none q hD1)).trans (s4 _ _ q), ?_⟩
      rw [upd_same, List.range_succ, List.map_append, dec_nat]
      rfl
    rintro H4 ⟨s4, h4⟩
    have s04 := s03.trans s4
    have E4 := E3.same s4
    have eB : (List.range (Int.toNat 5)).map (fun j => V.bl (gOf i == j)) = (bBas i).map V.bl := by
      rw [← bases_at i hi, List.map_map]
      rfl
    rw [eB] at h4
    refine ne_bls (bs := bBas i) (s4 _ _ hb3) h4 ⟨_, rfl, iteF ?_⟩
    -- the other classes
    refine ⟨_, rfl, e, C, i, dd, rfl, a2, E4, fun r1 H5 s5 h5 => ?_⟩
    refine ⟨_, rfl, e, C, i, dd, rfl, a2, E4.same s5, fun r2 H6 s6 h6 => ?_⟩
    refine ⟨r1, r2, _, _, rfl, rfl, s6 _ _ h5, h6, by rw [List.length_map, List.length_map]; show 12 + 10 ≤ sizeLine; decide, fun r3 h7 => ?_⟩
    have s7 : Same H6 (L2.upd H6 r3 (.lst ((bVK i).map V.bl ++ (bMK i).map V.bl))) := newS h7 _
    refine ⟨_, rfl, e, C, i, dd, rfl, a2, ((E4.same s5).same s6).same s7, fun r4 H9 s9 h9 => ?_⟩
    refine ⟨r3, r4, _, _, rfl, rfl, s9 _ _ upd_same, h9, by rw [List.length_append, List.length_map, List.length_map, List.length_map]; show 12 + 10 + 14 ≤ sizeLine; decide, fun r5 h10 => ?_⟩
    have s10 := (((s04.trans s5).trans s6).trans s7).trans (s9.trans (newS h10 (.lst ((bVK i).map V.bl ++ (bMK i).map V.bl ++ (bOK i).map V.bl))))
    have hK : (L2.upd H9 r5 (.lst ((bVK i).map V.bl ++ (bMK i).map V.bl ++ (bOK i).map V.bl))) r5 = some (.lst ((bVK i ++ bMK i ++ bOK i).map V.bl)) := by
      rw [upd_same, List.map_append, List.map_append]
    generalize L2.upd H9 r5 _ = H10 at s10 hK ⊢
    refine ⟨_, rfl, _, rfl, .ref l5, 36, rfl, lenL s10, 36, rfl, by decide, by decide, fun D2 hD2 => ?_⟩
    refine lc_it walk_range (fun k H' => Same H10 H' ∧ H' D2 = some (.lst ((List.range k).map fun j => V.bl (j == i)))) ⟨newS hD2 _, upd_same⟩ (fun _ _ _ _ => trivial) ?_ ?_
    · rintro k z H4 H5 hk ⟨s4, h4⟩ ⟨rfl, rfl⟩
      refine ⟨rfl, ?_⟩
      refine tYes_go ?_
      refine ⟨_, rfl, _, rfl, rfl, ?_⟩
      refine ⟨_, h4, small1000 (by rw [List.length_map, List.length_range]; have : k < 36 := hk; omega), fun b o q => (upd_ne (ne_of_none q hD2)).trans (s4 _ _ q), ?_⟩
      rw [upd_same, List.range_succ, List.map_append, dec_nat2]
      rfl
    rintro H11 ⟨s11, h11⟩
    have eK : (List.range (Int.toNat 36)).map (fun j => V.bl (j == i)) = (bVK i ++ bMK i ++ bOK i).map V.bl := by
      rw [← kinds_at i hi, List.map_map]
      rfl
    rw [eK] at h11
    refine ne_bls (bs := bVK i ++ bMK i ++ bOK i) (s11 _ _ hK) h11 ⟨_, rfl, iteF ?_⟩
    exact ⟨_, _, _, _, _, rfl, s10.trans s11⟩
  · rintro σ H1 ⟨u6, u7, u8, u9, u10, rfl, _⟩
    rfl
end Ask
namespace Ask
open PySem L2 PySem.Spec PyProof.Rows PySem.AskX LamX NdefX
def kkB (K : PySem.W.Frag) (cs : List Addr) : Bool := (List.range 36).all fun i => match cs[i]? with
  | some C => (List.range 36).all (fun j => match cs[j]? with
      | some D => decide (PySem.W.kitOne K (.ref C) (.ref D) = some (i == j))
      | none => false) && (decide (PySem.W.kitOne K (.ref C) (.type "ValueError") = some (gOf i == 0)) && (decide (PySem.W.kitOne K (.ref C) (.type "LookupError") = some (gOf i == 1 || gOf i == 2)) && (decide (PySem.W.kitOne K (.ref C) (.type "KeyError") = some (gOf i == 2)) &&
        (decide (PySem.W.kitOne K (.ref C) (.type "ArithmeticError") = some (gOf i == 3)) && decide (PySem.W.kitOne K (.ref C) (.type "RuntimeError") = some (gOf i == 4))))))
  | none => false
theorem kkB_ok {K : PySem.W.Frag} {cs : List Addr} (hl : cs.length = 36) (h : kkB K cs = true) : KsC K cs := by
  have at_ : ∀ (i : Nat) (C : Addr), cs[i]? = some C → i ∈ List.range 36 := fun i C e => by
    rw [List.mem_range, ← hl]
    exact (List.getElem?_eq_some_iff.mp e).1
  have all := List.all_eq_true.mp h
  refine ⟨fun i j C D h1 h2 => ?_, fun i C h1 => ?_⟩
  · have q := all i (at_ i C h1)
    rw [h1] at q
    have q1 := List.all_eq_true.mp (Bool.and_eq_true_iff.mp q).1 j (at_ j D h2)
    rw [h2] at q1
    exact of_decide_eq_true q1
  · have q := all i (at_ i C h1)
    rw [h1] at q
    obtain ⟨_, q⟩ := Bool.and_eq_true_iff.mp q
    obtain ⟨k1, q⟩ := Bool.and_eq_true_iff.mp q
    obtain ⟨k2, q⟩ := Bool.and_eq_true_iff.mp q
    obtain ⟨k3, q⟩ := Bool.and_eq_true_iff.mp q
    obtain ⟨k4, k5⟩ := Bool.and_eq_true_iff.mp q
    exact ⟨of_decide_eq_true k1, of_decide_eq_true k2, of_decide_eq_true k3, of_decide_eq_true k4, of_decide_eq_true k5⟩
section
variable {P : Program} {w : World} {K : PySem.W.Frag} {mg : Str → Option Value} {base : Heap} {cs : List Addr} {j g : Nat} {x f h qual : Str} {st : Stmt} {C I : Addr} {fd : FuncData} {p1 p2 p3 p4 q1 q2 q3 q4 : Pos}
theorem one_mk (F : Fun K "__init__" qual st I fd) (hb : defBody st = [.Assign [.Attribute (.Name "self" p1) f p2] (.Name f p3) p4]) (S : FnScope ["self", f] ["self", f] (defScope st)) (v1 : Vis (defScope st) "self") (v2 : Vis (defScope st) f) (d1 : (f == ("__debug__" : Str)) = false) (d2 : (f == ("__classdict__" : Str)) = false)
    (b : Binds K fd ["self", f] []) (hc : cs[j]? = some C) (hm : mg x = some (.ref C)) (er : erB K C g = true) (hin : PySem.W.findIn K (.ref C) "__init__" = some (some (.ref I))) (it : PySem.W.typeIn K (.ref I) = some (.type "function")) (fi : PySem.W.findIn K (.ref C) f = some none) : One P w K mg base cs j g x f :=
  ⟨C, I, fd, hc, hm, erB_ok er, hin, it, b, ok_init1 F S hb v1 v2 d1 d2, fi⟩
theorem two_mk (F : Fun K "__init__" qual st I fd) (hb : defBody st = [.Assign [.Attribute (.Name "self" p1) f p2] (.Name f p3) p4, .Assign [.Attribute (.Name "self" q1) h q2] (.Name h q3) q4]) (S : FnScope ["self", f, h] ["self", f, h] (defScope st)) (v1 : Vis (defScope st) "self") (v2 : Vis (defScope st) f) (v3 : Vis (defScope st) h)
    (d1 : (f == ("__debug__" : Str)) = false) (d2 : (f == ("__classdict__" : Str)) = false) (d3 : (h == ("__debug__" : Str)) = false) (d4 : (h == ("__classdict__" : Str)) = false) (b : Binds K fd ["self", f, h] []) (hc : cs[j]? = some C) (hm : mg x = some (.ref C)) (er : erB K C g = true)
    (hin : PySem.W.findIn K (.ref C) "__init__" = some (some (.ref I))) (it : PySem.W.typeIn K (.ref I) = some (.type "function")) (fi : PySem.W.findIn K (.ref C) f = some none) (gi : PySem.W.findIn K (.ref C) h = some none) : Two P w K mg base cs j g x f h :=
  ⟨C, I, fd, hc, hm, erB_ok er, hin, it, b, ok_init2 F S hb v1 v2 v3 d1 d2 d3 d4, fi, gi⟩
end
theorem all_mk {l : PySem.W.OpenLaw} {w : World} {K : PySem.W.Frag} {h : Heap} {mg : Str → Option Value} {f1 f2 f3 f4 f5 f6 f7 f8 f9 f10 f11 f12 fa : Addr} (X : K.In h) (G : h.Ns mainGlobals mg) (hfa : mg "law" = some (.ref fa))
    {od1 an1 : Option Addr} {sl1 : Array (Option Value)} {oc1 kV1 dc1 pm1 ct1 : Value} {od2 an2 : Option Addr} {sl2 : Array (Option Value)} {oc2 kV2 dc2 pm2 ct2 : Value} {od3 an3 : Option Addr} {sl3 : Array (Option Value)} {oc3 kV3 dc3 pm3 ct3 : Value} {od4 an4 : Option Addr} {sl4 : Array (Option Value)} {oc4 kV4 dc4 pm4 ct4 : Value} {od5 an5 : Option Addr} {sl5 : Array (Option Value)} {oc5 kV5 dc5 pm5 ct5 : Value} {od6 an6 : Option Addr} {sl6 : Array (Option Value)} {oc6 kV6 dc6 pm6 ct6 : Value} {od7 an7 : Option Addr} {sl7 : Array (Option Value)} {oc7 kV7 dc7 pm7 ct7 : Value} {od8 an8 : Option Addr} {sl8 : Array (Option Value)} {oc8 kV8 dc8 pm8 ct8 : Value} {od9 an9 : Option Addr} {sl9 : Array (Option Value)} {oc9 kV9 dc9 pm9 ct9 : Value} {od10 an10 : Option Addr} {sl10 : Array (Option Value)} {oc10 kV10 dc10 pm10 ct10 : Value} {od11 an11 : Option Addr} {sl11 : Array (Option Value)} {oc11 kV11 dc11 pm11 ct11 : Value} {od12 an12 : Option Addr} {sl12 : Array (Option Value)} {oc12 kV12 dc12 pm12 ct12 : Value} {cd1 : Value} {cd2 : Value} {cd3 : Value} {cd4 : Value} {cd8 : Value} {cd9 : Value} {cd10 : Value} {cd11 : Value} {cd12 : Value} {c1 P1 : Addr} {c2 P2 : Addr} {c3 P3 : Addr} {D0 : Addr} {D1 : Addr} {D2 : Addr} {D3 : Addr} {D4 : Addr} {D5 : Addr} {D6 : Addr} {D7 : Addr} {D8 : Addr} {D9 : Addr} {D10 : Addr} {D11 : Addr} {D12 : Addr} {D13 : Addr} {D14 : Addr} {D15 : Addr} {D16 : Addr} {D17 : Addr} {D18 : Addr} {D19 : Addr} {D20 : Addr} {D21 : Addr} {D22 : Addr} {D23 : Addr} {D24 : Addr} {D25 : Addr} {D26 : Addr} {D27 : Addr} {D28 : Addr} {D29 : Addr} {D30 : Addr} {D31 : Addr} {D32 : Addr} {D33 : Addr} {D34 : Addr} {D35 : Addr} {I0 : Addr} {iod0 ian0 : Option Addr} {isl0 : Array (Option Value)} {ioc0 ikV0 idc0 ipm0 icd0 ict0 : Value} {I1 : Addr} {iod1 ian1 : Option Addr} {isl1 : Array (Option Value)} {ioc1 ikV1 idc1 ipm1 icd1 ict1 : Value} {I2 : Addr} {iod2 ian2 : Option Addr} {isl2 : Array (Option Value)} {ioc2 ikV2 idc2 ipm2 icd2 ict2 : Value} {I3 : Addr} {iod3 ian3 : Option Addr} {isl3 : Array (Option Value)} {ioc3 ikV3 idc3 ipm3 icd3 ict3 : Value} {I4 : Addr} {iod4 ian4 : Option Addr} {isl4 : Array (Option Value)} {ioc4 ikV4 idc4 ipm4 icd4 ict4 : Value} {I5 : Addr} {iod5 ian5 : Option Addr} {isl5 : Array (Option Value)} {ioc5 ikV5 idc5 ipm5 icd5 ict5 : Value} {I6 : Addr} {iod6 ian6 : Option Addr} {isl6 : Array (Option Value)} {ioc6 ikV6 idc6 ipm6 icd6 ict6 : Value} {I7 : Addr} {iod7 ian7 : Option Addr} {isl7 : Array (Option Value)} {ioc7 ikV7 idc7 ipm7 icd7 ict7 : Value} {I8 : Addr} {iod8 ian8 : Option Addr} {isl8 : Array (Option Value)} {ioc8 ikV8 idc8 ipm8 icd8 ict8 : Value} {I9 : Addr} {iod9 ian9 : Option Addr} {isl9 : Array (Option Value)} {ioc9 ikV9 idc9 ipm9 icd9 ict9 : Value} {I10 : Addr} {iod10 ian10 : Option Addr} {isl10 : Array (Option Value)} {ioc10 ikV10 idc10 ipm10 icd10 ict10 : Value} {I11 : Addr} {iod11 ian11 : Option Addr} {isl11 : Array (Option Value)} {ioc11 ikV11 idc11 ipm11 icd11 ict11 : Value} {I12 : Addr} {iod12 ian12 : Option Addr} {isl12 : Array (Option Value)} {ioc12 ikV12 idc12 ipm12 icd12 ict12 : Value} {I13 : Addr} {iod13 ian13 : Option Addr} {isl13 : Array (Option Value)} {ioc13 ikV13 idc13 ipm13 icd13 ict13 : Value} {I14 : Addr} {iod14 ian14 : Option Addr} {isl14 : Array (Option Value)} {ioc14 ikV14 idc14 ipm14 icd14 ict14 : Value} {I15 : Addr} {iod15 ian15 : Option Addr} {isl15 : Array (Option Value)} {ioc15 ikV15 idc15 ipm15 icd15 ict15 : Value} {I16 : Addr} {iod16 ian16 : Option Addr} {isl16 : Array (Option Value)} {ioc16 ikV16 idc16 ipm16 icd16 ict16 : Value} {I17 : Addr} {iod17 ian17 : Option Addr} {isl17 : Array (Option Value)} {ioc17 ikV17 idc17 ipm17 icd17 ict17 : Value} {I18 : Addr} {iod18 ian18 : Option Addr} {isl18 : Array (Option Value)} {ioc18 ikV18 idc18 ipm18 icd18 ict18 : Value} {I19 : Addr} {iod19 ian19 : Option Addr} {isl19 : Array (Option Value)} {ioc19 ikV19 idc19 ipm19 icd19 ict19 : Value} {I20 : Addr} {iod20 ian20 : Option Addr} {isl20 : Array (Option Value)} {ioc20 ikV20 idc20 ipm20 icd20 ict20 : Value} {I21 : Addr} {iod21 ian21 : Option Addr} {isl21 : Array (Option Value)} {ioc21 ikV21 idc21 ipm21 icd21 ict21 : Value} {I22 : Addr} {iod22 ian22 : Option Addr} {isl22 : Array (Option Value)} {ioc22 ikV22 idc22 ipm22 icd22 ict22 : Value} {I23 : Addr} {iod23 ian23 : Option Addr} {isl23 : Array (Option Value)} {ioc23 ikV23 idc23 ipm23 icd23 ict23 : Value} {I24 : Addr} {iod24 ian24 : Option Addr} {isl24 : Array (Option Value)} {ioc24 ikV24 idc24 ipm24 icd24 ict24 : Value} {I25 : Addr} {iod25 ian25 : Option Addr} {isl25 : Array (Option Value)} {ioc25 ikV25 idc25 ipm25 icd25 ict25 : Value} {I26 : Addr} {iod26 ian26 : Option Addr} {isl26 : Array (Option Value)} {ioc26 ikV26 idc26 ipm26 icd26 ict26 : Value} {I27 : Addr} {iod27 ian27 : Option Addr} {isl27 : Array (Option Value)} {ioc27 ikV27 idc27 ipm27 icd27 ict27 : Value} {I28 : Addr} {iod28 ian28 : Option Addr} {isl28 : Array (Option Value)} {ioc28 ikV28 idc28 ipm28 icd28 ict28 : Value} {I29 : Addr} {iod29 ian29 : Option Addr} {isl29 : Array (Option Value)} {ioc29 ikV29 idc29 ipm29 icd29 ict29 : Value} {I30 : Addr} {iod30 ian30 : Option Addr} {isl30 : Array (Option Value)} {ioc30 ikV30 idc30 ipm30 icd30 ict30 : Value} {I31 : Addr} {iod31 ian31 : Option Addr} {isl31 : Array (Option Value)} {ioc31 ikV31 idc31 ipm31 icd31 ict31 : Value} {I33 : Addr} {iod33 ian33 : Option Addr} {isl33 : Array (Option Value)} {ioc33 ikV33 idc33 ipm33 icd33 ict33 : Value}
    (a1 : PySem.W.nsIn K mainGlobals "_law_begin" = some (some (.ref f1))) (l1 : K.lookup f1 = some ⟨oc1, od1, .func (PySem.W.fnOf "_law_begin" "_law_begin" (defArgs sBegin) (defBody sBegin) (defScope sBegin) .none kV1 dc1 pm1 an1 cd1 ct1), sl1⟩) (c1_ : PySem.W.codeIn K cd1 "_law_begin" = true) (k1 : PySem.W.keepIn K (.ref f1) = true)
    (a2 : PySem.W.nsIn K mainGlobals "_law_draw" = some (some (.ref f2))) (l2 : K.lookup f2 = some ⟨oc2, od2, .func (PySem.W.fnOf "_law_draw" "_law_draw" (defArgs sDraw) (defBody sDraw) (defScope sDraw) .none kV2 dc2 pm2 an2 cd2 ct2), sl2⟩) (c2_ : PySem.W.codeIn K cd2 "_law_draw" = true) (k2 : PySem.W.keepIn K (.ref f2) = true)
    (a3 : PySem.W.nsIn K mainGlobals "_law_pick" = some (some (.ref f3))) (l3 : K.lookup f3 = some ⟨oc3, od3, .func (PySem.W.fnOf "_law_pick" "_law_pick" (defArgs sPick) (defBody sPick) (defScope sPick) .none kV3 dc3 pm3 an3 cd3 ct3), sl3⟩) (c3_ : PySem.W.codeIn K cd3 "_law_pick" = true) (k3 : PySem.W.keepIn K (.ref f3) = true)
    (a4 : PySem.W.nsIn K mainGlobals "_law_odd" = some (some (.ref f4))) (l4 : K.lookup f4 = some ⟨oc4, od4, .func (PySem.W.fnOf "_law_odd" "_law_odd" (defArgs sOdd) (defBody sOdd) (defScope sOdd) .none kV4 dc4 pm4 an4 cd4 ct4), sl4⟩) (c4_ : PySem.W.codeIn K cd4 "_law_odd" = true) (k4 : PySem.W.keepIn K (.ref f4) = true)
    (a5 : PySem.W.nsIn K mainGlobals "_law_value_errors" = some (some (.ref f5))) (l5 : K.lookup f5 = some ⟨oc5, od5, .func (PySem.W.fnOf "_law_value_errors" "_law_value_errors" (defArgs sVE) (defBody sVE) (defScope sVE) .none kV5 dc5 pm5 an5 (.ref c1) ct5), sl5⟩) (c5_ : PySem.W.codeIn K (.ref c1) "_law_value_errors" = true) (k5 : PySem.W.keepIn K (.ref f5) = true)
    (a6 : PySem.W.nsIn K mainGlobals "_law_more_value_errors" = some (some (.ref f6))) (l6 : K.lookup f6 = some ⟨oc6, od6, .func (PySem.W.fnOf "_law_more_value_errors" "_law_more_value_errors" (defArgs sME) (defBody sME) (defScope sME) .none kV6 dc6 pm6 an6 (.ref c2) ct6), sl6⟩) (c6_ : PySem.W.codeIn K (.ref c2) "_law_more_value_errors" = true) (k6 : PySem.W.keepIn K (.ref f6) = true)
    (a7 : PySem.W.nsIn K mainGlobals "_law_other_errors" = some (some (.ref f7))) (l7 : K.lookup f7 = some ⟨oc7, od7, .func (PySem.W.fnOf "_law_other_errors" "_law_other_errors" (defArgs sOE) (defBody sOE) (defScope sOE) .none kV7 dc7 pm7 an7 (.ref c3) ct7), sl7⟩) (c7_ : PySem.W.codeIn K (.ref c3) "_law_other_errors" = true) (k7 : PySem.W.keepIn K (.ref f7) = true)
    (a8 : PySem.W.nsIn K mainGlobals "_law_value_kinds" = some (some (.ref f8))) (l8 : K.lookup f8 = some ⟨oc8, od8, .func (PySem.W.fnOf "_law_value_kinds" "_law_value_kinds" (defArgs sVK) (defBody sVK) (defScope sVK) .none kV8 dc8 pm8 an8 cd8 ct8), sl8⟩) (c8_ : PySem.W.codeIn K cd8 "_law_value_kinds" = true) (k8 : PySem.W.keepIn K (.ref f8) = true)
    (a9 : PySem.W.nsIn K mainGlobals "_law_more_value_kinds" = some (some (.ref f9))) (l9 : K.lookup f9 = some ⟨oc9, od9, .func (PySem.W.fnOf "_law_more_value_kinds" "_law_more_value_kinds" (defArgs sMK) (defBody sMK) (defScope sMK) .none kV9 dc9 pm9 an9 cd9 ct9), sl9⟩) (c9_ : PySem.W.codeIn K cd9 "_law_more_value_kinds" = true) (k9 : PySem.W.keepIn K (.ref f9) = true)
    (a10 : PySem.W.nsIn K mainGlobals "_law_other_kinds" = some (some (.ref f10))) (l10 : K.lookup f10 = some ⟨oc10, od10, .func (PySem.W.fnOf "_law_other_kinds" "_law_other_kinds" (defArgs sOK) (defBody sOK) (defScope sOK) .none kV10 dc10 pm10 an10 cd10 ct10), sl10⟩) (c10_ : PySem.W.codeIn K cd10 "_law_other_kinds" = true) (k10 : PySem.W.keepIn K (.ref f10) = true)
    (a11 : PySem.W.nsIn K mainGlobals "_law_bases" = some (some (.ref f11))) (l11 : K.lookup f11 = some ⟨oc11, od11, .func (PySem.W.fnOf "_law_bases" "_law_bases" (defArgs sBas) (defBody sBas) (defScope sBas) .none kV11 dc11 pm11 an11 cd11 ct11), sl11⟩) (c11_ : PySem.W.codeIn K cd11 "_law_bases" = true) (k11 : PySem.W.keepIn K (.ref f11) = true)
    (a12 : PySem.W.nsIn K mainGlobals "law" = some (some (.ref f12))) (l12 : K.lookup f12 = some ⟨oc12, od12, .func (PySem.W.fnOf "law" "law" (defArgs sLaw) (defBody sLaw) (defScope sLaw) .none kV12 dc12 pm12 an12 cd12 ct12), sl12⟩) (c12_ : PySem.W.codeIn K cd12 "law" = true) (k12 : PySem.W.keepIn K (.ref f12) = true)
    (z0 : PySem.W.nsIn K mainGlobals "len" = some none)    (z1 : PySem.W.nsIn K mainGlobals "int" = some none)    (z2 : PySem.W.nsIn K mainGlobals "isinstance" = some none)    (z3 : PySem.W.nsIn K mainGlobals "range" = some none)    (z4 : PySem.W.nsIn K mainGlobals "repr" = some none)    (z5 : PySem.W.nsIn K mainGlobals "ValueError" = some none)    (z6 : PySem.W.nsIn K mainGlobals "LookupError" = some none)    (z7 : PySem.W.nsIn K mainGlobals "KeyError" = some none)    (z8 : PySem.W.nsIn K mainGlobals "ArithmeticError" = some none)    (z9 : PySem.W.nsIn K mainGlobals "RuntimeError" = some none)
    (na0 : PySem.W.nsIn K mainGlobals "InvalidSchema" = some (some (.ref D0))) (er0 : erB K D0 0 = true) (hi0 : PySem.W.findIn K (.ref D0) "__init__" = some (some (.ref I0))) (il0 : K.lookup I0 = some ⟨ioc0, iod0, .func (PySem.W.fnOf "__init__" "InvalidSchema.__init__" (defArgs (initOf 1)) (defBody (initOf 1)) (defScope (initOf 1)) .none ikV0 idc0 ipm0 ian0 icd0 ict0), isl0⟩) (ic0 : PySem.W.codeIn K icd0 "InvalidSchema.__init__" = true) (ik0 : PySem.W.keepIn K (.ref I0) = true) (it0 : PySem.W.typeIn K (.ref I0) = some (.type "function")) (fi0_0 : PySem.W.findIn K (.ref D0) "word" = some none)
    (na1 : PySem.W.nsIn K mainGlobals "InvalidRows" = some (some (.ref D1))) (er1 : erB K D1 0 = true) (hi1 : PySem.W.findIn K (.ref D1) "__init__" = some (some (.ref I1))) (il1 : K.lookup I1 = some ⟨ioc1, iod1, .func (PySem.W.fnOf "__init__" "InvalidRows.__init__" (defArgs (initOf 2)) (defBody (initOf 2)) (defScope (initOf 2)) .none ikV1 idc1 ipm1 ian1 icd1 ict1), isl1⟩) (ic1 : PySem.W.codeIn K icd1 "InvalidRows.__init__" = true) (ik1 : PySem.W.keepIn K (.ref I1) = true) (it1 : PySem.W.typeIn K (.ref I1) = some (.type "function")) (fi1_0 : PySem.W.findIn K (.ref D1) "word" = some none)
    (na2 : PySem.W.nsIn K mainGlobals "Broken" = some (some (.ref D2))) (er2 : erB K D2 0 = true) (hi2 : PySem.W.findIn K (.ref D2) "__init__" = some (some (.ref I2))) (il2 : K.lookup I2 = some ⟨ioc2, iod2, .func (PySem.W.fnOf "__init__" "Broken.__init__" (defArgs (initOf 3)) (defBody (initOf 3)) (defScope (initOf 3)) .none ikV2 idc2 ipm2 ian2 icd2 ict2), isl2⟩) (ic2 : PySem.W.codeIn K icd2 "Broken.__init__" = true) (ik2 : PySem.W.keepIn K (.ref I2) = true) (it2 : PySem.W.typeIn K (.ref I2) = some (.type "function")) (fi2_0 : PySem.W.findIn K (.ref D2) "found" = some none)
    (na3 : PySem.W.nsIn K mainGlobals "SameName" = some (some (.ref D3))) (er3 : erB K D3 0 = true) (hi3 : PySem.W.findIn K (.ref D3) "__init__" = some (some (.ref I3))) (il3 : K.lookup I3 = some ⟨ioc3, iod3, .func (PySem.W.fnOf "__init__" "SameName.__init__" (defArgs (initOf 4)) (defBody (initOf 4)) (defScope (initOf 4)) .none ikV3 idc3 ipm3 ian3 icd3 ict3), isl3⟩) (ic3 : PySem.W.codeIn K icd3 "SameName.__init__" = true) (ik3 : PySem.W.keepIn K (.ref I3) = true) (it3 : PySem.W.typeIn K (.ref I3) = some (.type "function")) (fi3_0 : PySem.W.findIn K (.ref D3) "word" = some none)
    (na4 : PySem.W.nsIn K mainGlobals "BadGroup" = some (some (.ref D4))) (er4 : erB K D4 0 = true) (hi4 : PySem.W.findIn K (.ref D4) "__init__" = some (some (.ref I4))) (il4 : K.lookup I4 = some ⟨ioc4, iod4, .func (PySem.W.fnOf "__init__" "BadGroup.__init__" (defArgs (initOf 5)) (defBody (initOf 5)) (defScope (initOf 5)) .none ikV4 idc4 ipm4 ian4 icd4 ict4), isl4⟩) (ic4 : PySem.W.codeIn K icd4 "BadGroup.__init__" = true) (ik4 : PySem.W.keepIn K (.ref I4) = true) (it4 : PySem.W.typeIn K (.ref I4) = some (.type "function")) (fi4_0 : PySem.W.findIn K (.ref D4) "word" = some none)
    (na5 : PySem.W.nsIn K mainGlobals "BadAggregate" = some (some (.ref D5))) (er5 : erB K D5 0 = true) (hi5 : PySem.W.findIn K (.ref D5) "__init__" = some (some (.ref I5))) (il5 : K.lookup I5 = some ⟨ioc5, iod5, .func (PySem.W.fnOf "__init__" "BadAggregate.__init__" (defArgs (initOf 6)) (defBody (initOf 6)) (defScope (initOf 6)) .none ikV5 idc5 ipm5 ian5 icd5 ict5), isl5⟩) (ic5 : PySem.W.codeIn K icd5 "BadAggregate.__init__" = true) (ik5 : PySem.W.keepIn K (.ref I5) = true) (it5 : PySem.W.typeIn K (.ref I5) = some (.type "function")) (fi5_0 : PySem.W.findIn K (.ref D5) "word" = some none)
    (na6 : PySem.W.nsIn K mainGlobals "BadKind" = some (some (.ref D6))) (er6 : erB K D6 0 = true) (hi6 : PySem.W.findIn K (.ref D6) "__init__" = some (some (.ref I6))) (il6 : K.lookup I6 = some ⟨ioc6, iod6, .func (PySem.W.fnOf "__init__" "BadKind.__init__" (defArgs (initOf 7)) (defBody (initOf 7)) (defScope (initOf 7)) .none ikV6 idc6 ipm6 ian6 icd6 ict6), isl6⟩) (ic6 : PySem.W.codeIn K icd6 "BadKind.__init__" = true) (ik6 : PySem.W.keepIn K (.ref I6) = true) (it6 : PySem.W.typeIn K (.ref I6) = some (.type "function")) (fi6_0 : PySem.W.findIn K (.ref D6) "word" = some none)
    (na7 : PySem.W.nsIn K mainGlobals "BadShape" = some (some (.ref D7))) (er7 : erB K D7 0 = true) (hi7 : PySem.W.findIn K (.ref D7) "__init__" = some (some (.ref I7))) (il7 : K.lookup I7 = some ⟨ioc7, iod7, .func (PySem.W.fnOf "__init__" "BadShape.__init__" (defArgs (initOf 8)) (defBody (initOf 8)) (defScope (initOf 8)) .none ikV7 idc7 ipm7 ian7 icd7 ict7), isl7⟩) (ic7 : PySem.W.codeIn K icd7 "BadShape.__init__" = true) (ik7 : PySem.W.keepIn K (.ref I7) = true) (it7 : PySem.W.typeIn K (.ref I7) = some (.type "function")) (fi7_0 : PySem.W.findIn K (.ref D7) "word" = some none)
    (na8 : PySem.W.nsIn K mainGlobals "NoQuestion" = some (some (.ref D8))) (er8 : erB K D8 0 = true) (hi8 : PySem.W.findIn K (.ref D8) "__init__" = some (some (.ref I8))) (il8 : K.lookup I8 = some ⟨ioc8, iod8, .func (PySem.W.fnOf "__init__" "NoQuestion.__init__" (defArgs (initOf 9)) (defBody (initOf 9)) (defScope (initOf 9)) .none ikV8 idc8 ipm8 ian8 icd8 ict8), isl8⟩) (ic8 : PySem.W.codeIn K icd8 "NoQuestion.__init__" = true) (ik8 : PySem.W.keepIn K (.ref I8) = true) (it8 : PySem.W.typeIn K (.ref I8) = some (.type "function")) (fi8_0 : PySem.W.findIn K (.ref D8) "place" = some none)
    (na9 : PySem.W.nsIn K mainGlobals "BadParameter" = some (some (.ref D9))) (er9 : erB K D9 0 = true) (hi9 : PySem.W.findIn K (.ref D9) "__init__" = some (some (.ref I9))) (il9 : K.lookup I9 = some ⟨ioc9, iod9, .func (PySem.W.fnOf "__init__" "BadParameter.__init__" (defArgs (initOf 10)) (defBody (initOf 10)) (defScope (initOf 10)) .none ikV9 idc9 ipm9 ian9 icd9 ict9), isl9⟩) (ic9 : PySem.W.codeIn K icd9 "BadParameter.__init__" = true) (ik9 : PySem.W.keepIn K (.ref I9) = true) (it9 : PySem.W.typeIn K (.ref I9) = some (.type "function")) (fi9_0 : PySem.W.findIn K (.ref D9) "word" = some none)
    (na10 : PySem.W.nsIn K mainGlobals "InvalidPlan" = some (some (.ref D10))) (er10 : erB K D10 0 = true) (hi10 : PySem.W.findIn K (.ref D10) "__init__" = some (some (.ref I10))) (il10 : K.lookup I10 = some ⟨ioc10, iod10, .func (PySem.W.fnOf "__init__" "InvalidPlan.__init__" (defArgs (initOf 11)) (defBody (initOf 11)) (defScope (initOf 11)) .none ikV10 idc10 ipm10 ian10 icd10 ict10), isl10⟩) (ic10 : PySem.W.codeIn K icd10 "InvalidPlan.__init__" = true) (ik10 : PySem.W.keepIn K (.ref I10) = true) (it10 : PySem.W.typeIn K (.ref I10) = some (.type "function")) (fi10_0 : PySem.W.findIn K (.ref D10) "word" = some none)
    (na11 : PySem.W.nsIn K mainGlobals "FreeColumns" = some (some (.ref D11))) (er11 : erB K D11 0 = true) (hi11 : PySem.W.findIn K (.ref D11) "__init__" = some (some (.ref I11))) (il11 : K.lookup I11 = some ⟨ioc11, iod11, .func (PySem.W.fnOf "__init__" "FreeColumns.__init__" (defArgs (initOf 12)) (defBody (initOf 12)) (defScope (initOf 12)) .none ikV11 idc11 ipm11 ian11 icd11 ict11), isl11⟩) (ic11 : PySem.W.codeIn K icd11 "FreeColumns.__init__" = true) (ik11 : PySem.W.keepIn K (.ref I11) = true) (it11 : PySem.W.typeIn K (.ref I11) = some (.type "function")) (fi11_0 : PySem.W.findIn K (.ref D11) "value" = some none)
    (na12 : PySem.W.nsIn K mainGlobals "BadColumns" = some (some (.ref D12))) (er12 : erB K D12 0 = true) (hi12 : PySem.W.findIn K (.ref D12) "__init__" = some (some (.ref I12))) (il12 : K.lookup I12 = some ⟨ioc12, iod12, .func (PySem.W.fnOf "__init__" "BadColumns.__init__" (defArgs (initOf 13)) (defBody (initOf 13)) (defScope (initOf 13)) .none ikV12 idc12 ipm12 ian12 icd12 ict12), isl12⟩) (ic12 : PySem.W.codeIn K icd12 "BadColumns.__init__" = true) (ik12 : PySem.W.keepIn K (.ref I12) = true) (it12 : PySem.W.typeIn K (.ref I12) = some (.type "function")) (fi12_0 : PySem.W.findIn K (.ref D12) "word" = some none)
    (na13 : PySem.W.nsIn K mainGlobals "NoRoad" = some (some (.ref D13))) (er13 : erB K D13 0 = true) (hi13 : PySem.W.findIn K (.ref D13) "__init__" = some (some (.ref I13))) (il13 : K.lookup I13 = some ⟨ioc13, iod13, .func (PySem.W.fnOf "__init__" "NoRoad.__init__" (defArgs (initOf 14)) (defBody (initOf 14)) (defScope (initOf 14)) .none ikV13 idc13 ipm13 ian13 icd13 ict13), isl13⟩) (ic13 : PySem.W.codeIn K icd13 "NoRoad.__init__" = true) (ik13 : PySem.W.keepIn K (.ref I13) = true) (it13 : PySem.W.typeIn K (.ref I13) = some (.type "function")) (fi13_0 : PySem.W.findIn K (.ref D13) "index" = some none)
    (na14 : PySem.W.nsIn K mainGlobals "InvalidCount" = some (some (.ref D14))) (er14 : erB K D14 0 = true) (hi14 : PySem.W.findIn K (.ref D14) "__init__" = some (some (.ref I14))) (il14 : K.lookup I14 = some ⟨ioc14, iod14, .func (PySem.W.fnOf "__init__" "InvalidCount.__init__" (defArgs (initOf 15)) (defBody (initOf 15)) (defScope (initOf 15)) .none ikV14 idc14 ipm14 ian14 icd14 ict14), isl14⟩) (ic14 : PySem.W.codeIn K icd14 "InvalidCount.__init__" = true) (ik14 : PySem.W.keepIn K (.ref I14) = true) (it14 : PySem.W.typeIn K (.ref I14) = some (.type "function")) (fi14_0 : PySem.W.findIn K (.ref D14) "value" = some none)
    (na15 : PySem.W.nsIn K mainGlobals "InvalidStore" = some (some (.ref D15))) (er15 : erB K D15 0 = true) (hi15 : PySem.W.findIn K (.ref D15) "__init__" = some (some (.ref I15))) (il15 : K.lookup I15 = some ⟨ioc15, iod15, .func (PySem.W.fnOf "__init__" "InvalidStore.__init__" (defArgs (initOf 16)) (defBody (initOf 16)) (defScope (initOf 16)) .none ikV15 idc15 ipm15 ian15 icd15 ict15), isl15⟩) (ic15 : PySem.W.codeIn K icd15 "InvalidStore.__init__" = true) (ik15 : PySem.W.keepIn K (.ref I15) = true) (it15 : PySem.W.typeIn K (.ref I15) = some (.type "function")) (fi15_0 : PySem.W.findIn K (.ref D15) "word" = some none)
    (na16 : PySem.W.nsIn K mainGlobals "NotFlat" = some (some (.ref D16))) (er16 : erB K D16 0 = true) (hi16 : PySem.W.findIn K (.ref D16) "__init__" = some (some (.ref I16))) (il16 : K.lookup I16 = some ⟨ioc16, iod16, .func (PySem.W.fnOf "__init__" "NotFlat.__init__" (defArgs (initOf 17)) (defBody (initOf 17)) (defScope (initOf 17)) .none ikV16 idc16 ipm16 ian16 icd16 ict16), isl16⟩) (ic16 : PySem.W.codeIn K icd16 "NotFlat.__init__" = true) (ik16 : PySem.W.keepIn K (.ref I16) = true) (it16 : PySem.W.typeIn K (.ref I16) = some (.type "function")) (fi16_0 : PySem.W.findIn K (.ref D16) "path" = some none)
    (na17 : PySem.W.nsIn K mainGlobals "BadWay" = some (some (.ref D17))) (er17 : erB K D17 0 = true) (hi17 : PySem.W.findIn K (.ref D17) "__init__" = some (some (.ref I17))) (il17 : K.lookup I17 = some ⟨ioc17, iod17, .func (PySem.W.fnOf "__init__" "BadWay.__init__" (defArgs (initOf 18)) (defBody (initOf 18)) (defScope (initOf 18)) .none ikV17 idc17 ipm17 ian17 icd17 ict17), isl17⟩) (ic17 : PySem.W.codeIn K icd17 "BadWay.__init__" = true) (ik17 : PySem.W.keepIn K (.ref I17) = true) (it17 : PySem.W.typeIn K (.ref I17) = some (.type "function")) (fi17_0 : PySem.W.findIn K (.ref D17) "path" = some none)
    (na18 : PySem.W.nsIn K mainGlobals "InvalidName" = some (some (.ref D18))) (er18 : erB K D18 0 = true) (hi18 : PySem.W.findIn K (.ref D18) "__init__" = some (some (.ref I18))) (il18 : K.lookup I18 = some ⟨ioc18, iod18, .func (PySem.W.fnOf "__init__" "InvalidName.__init__" (defArgs (initOf 19)) (defBody (initOf 19)) (defScope (initOf 19)) .none ikV18 idc18 ipm18 ian18 icd18 ict18), isl18⟩) (ic18 : PySem.W.codeIn K icd18 "InvalidName.__init__" = true) (ik18 : PySem.W.keepIn K (.ref I18) = true) (it18 : PySem.W.typeIn K (.ref I18) = some (.type "function")) (fi18_0 : PySem.W.findIn K (.ref D18) "value" = some none)
    (na19 : PySem.W.nsIn K mainGlobals "InvalidChange" = some (some (.ref D19))) (er19 : erB K D19 0 = true) (hi19 : PySem.W.findIn K (.ref D19) "__init__" = some (some (.ref I19))) (il19 : K.lookup I19 = some ⟨ioc19, iod19, .func (PySem.W.fnOf "__init__" "InvalidChange.__init__" (defArgs (initOf 20)) (defBody (initOf 20)) (defScope (initOf 20)) .none ikV19 idc19 ipm19 ian19 icd19 ict19), isl19⟩) (ic19 : PySem.W.codeIn K icd19 "InvalidChange.__init__" = true) (ik19 : PySem.W.keepIn K (.ref I19) = true) (it19 : PySem.W.typeIn K (.ref I19) = some (.type "function")) (fi19_0 : PySem.W.findIn K (.ref D19) "index" = some none)
    (na20 : PySem.W.nsIn K mainGlobals "WrongWidth" = some (some (.ref D20))) (er20 : erB K D20 0 = true) (hi20 : PySem.W.findIn K (.ref D20) "__init__" = some (some (.ref I20))) (il20 : K.lookup I20 = some ⟨ioc20, iod20, .func (PySem.W.fnOf "__init__" "WrongWidth.__init__" (defArgs (initOf 21)) (defBody (initOf 21)) (defScope (initOf 21)) .none ikV20 idc20 ipm20 ian20 icd20 ict20), isl20⟩) (ic20 : PySem.W.codeIn K icd20 "WrongWidth.__init__" = true) (ik20 : PySem.W.keepIn K (.ref I20) = true) (it20 : PySem.W.typeIn K (.ref I20) = some (.type "function")) (fi20_0 : PySem.W.findIn K (.ref D20) "index" = some none)
    (na21 : PySem.W.nsIn K mainGlobals "InvalidText" = some (some (.ref D21))) (er21 : erB K D21 0 = true) (hi21 : PySem.W.findIn K (.ref D21) "__init__" = some (some (.ref I21))) (il21 : K.lookup I21 = some ⟨ioc21, iod21, .func (PySem.W.fnOf "__init__" "InvalidText.__init__" (defArgs (initOf 22)) (defBody (initOf 22)) (defScope (initOf 22)) .none ikV21 idc21 ipm21 ian21 icd21 ict21), isl21⟩) (ic21 : PySem.W.codeIn K icd21 "InvalidText.__init__" = true) (ik21 : PySem.W.keepIn K (.ref I21) = true) (it21 : PySem.W.typeIn K (.ref I21) = some (.type "function")) (fi21_0 : PySem.W.findIn K (.ref D21) "line" = some none)
    (na22 : PySem.W.nsIn K mainGlobals "UnknownTable" = some (some (.ref D22))) (er22 : erB K D22 2 = true) (hi22 : PySem.W.findIn K (.ref D22) "__init__" = some (some (.ref I22))) (il22 : K.lookup I22 = some ⟨ioc22, iod22, .func (PySem.W.fnOf "__init__" "UnknownTable.__init__" (defArgs (initOf 23)) (defBody (initOf 23)) (defScope (initOf 23)) .none ikV22 idc22 ipm22 ian22 icd22 ict22), isl22⟩) (ic22 : PySem.W.codeIn K icd22 "UnknownTable.__init__" = true) (ik22 : PySem.W.keepIn K (.ref I22) = true) (it22 : PySem.W.typeIn K (.ref I22) = some (.type "function")) (fi22_0 : PySem.W.findIn K (.ref D22) "word" = some none)
    (na23 : PySem.W.nsIn K mainGlobals "UnknownColumn" = some (some (.ref D23))) (er23 : erB K D23 2 = true) (hi23 : PySem.W.findIn K (.ref D23) "__init__" = some (some (.ref I23))) (il23 : K.lookup I23 = some ⟨ioc23, iod23, .func (PySem.W.fnOf "__init__" "UnknownColumn.__init__" (defArgs (initOf 24)) (defBody (initOf 24)) (defScope (initOf 24)) .none ikV23 idc23 ipm23 ian23 icd23 ict23), isl23⟩) (ic23 : PySem.W.codeIn K icd23 "UnknownColumn.__init__" = true) (ik23 : PySem.W.keepIn K (.ref I23) = true) (it23 : PySem.W.typeIn K (.ref I23) = some (.type "function")) (fi23_0 : PySem.W.findIn K (.ref D23) "alias" = some none) (fi23_1 : PySem.W.findIn K (.ref D23) "word" = some none)
    (na24 : PySem.W.nsIn K mainGlobals "UnknownRule" = some (some (.ref D24))) (er24 : erB K D24 2 = true) (hi24 : PySem.W.findIn K (.ref D24) "__init__" = some (some (.ref I24))) (il24 : K.lookup I24 = some ⟨ioc24, iod24, .func (PySem.W.fnOf "__init__" "UnknownRule.__init__" (defArgs (initOf 25)) (defBody (initOf 25)) (defScope (initOf 25)) .none ikV24 idc24 ipm24 ian24 icd24 ict24), isl24⟩) (ic24 : PySem.W.codeIn K icd24 "UnknownRule.__init__" = true) (ik24 : PySem.W.keepIn K (.ref I24) = true) (it24 : PySem.W.typeIn K (.ref I24) = some (.type "function")) (fi24_0 : PySem.W.findIn K (.ref D24) "value" = some none)
    (na25 : PySem.W.nsIn K mainGlobals "UnknownView" = some (some (.ref D25))) (er25 : erB K D25 2 = true) (hi25 : PySem.W.findIn K (.ref D25) "__init__" = some (some (.ref I25))) (il25 : K.lookup I25 = some ⟨ioc25, iod25, .func (PySem.W.fnOf "__init__" "UnknownView.__init__" (defArgs (initOf 26)) (defBody (initOf 26)) (defScope (initOf 26)) .none ikV25 idc25 ipm25 ian25 icd25 ict25), isl25⟩) (ic25 : PySem.W.codeIn K icd25 "UnknownView.__init__" = true) (ik25 : PySem.W.keepIn K (.ref I25) = true) (it25 : PySem.W.typeIn K (.ref I25) = some (.type "function")) (fi25_0 : PySem.W.findIn K (.ref D25) "value" = some none)
    (na26 : PySem.W.nsIn K mainGlobals "UnknownName" = some (some (.ref D26))) (er26 : erB K D26 2 = true) (hi26 : PySem.W.findIn K (.ref D26) "__init__" = some (some (.ref I26))) (il26 : K.lookup I26 = some ⟨ioc26, iod26, .func (PySem.W.fnOf "__init__" "UnknownName.__init__" (defArgs (initOf 27)) (defBody (initOf 27)) (defScope (initOf 27)) .none ikV26 idc26 ipm26 ian26 icd26 ict26), isl26⟩) (ic26 : PySem.W.codeIn K icd26 "UnknownName.__init__" = true) (ik26 : PySem.W.keepIn K (.ref I26) = true) (it26 : PySem.W.typeIn K (.ref I26) = some (.type "function")) (fi26_0 : PySem.W.findIn K (.ref D26) "value" = some none)
    (na27 : PySem.W.nsIn K mainGlobals "Ambiguous" = some (some (.ref D27))) (er27 : erB K D27 1 = true) (hi27 : PySem.W.findIn K (.ref D27) "__init__" = some (some (.ref I27))) (il27 : K.lookup I27 = some ⟨ioc27, iod27, .func (PySem.W.fnOf "__init__" "Ambiguous.__init__" (defArgs (initOf 28)) (defBody (initOf 28)) (defScope (initOf 28)) .none ikV27 idc27 ipm27 ian27 icd27 ict27), isl27⟩) (ic27 : PySem.W.codeIn K icd27 "Ambiguous.__init__" = true) (ik27 : PySem.W.keepIn K (.ref I27) = true) (it27 : PySem.W.typeIn K (.ref I27) = some (.type "function")) (fi27_0 : PySem.W.findIn K (.ref D27) "word" = some none)
    (na28 : PySem.W.nsIn K mainGlobals "NoPlace" = some (some (.ref D28))) (er28 : erB K D28 1 = true) (hi28 : PySem.W.findIn K (.ref D28) "__init__" = some (some (.ref I28))) (il28 : K.lookup I28 = some ⟨ioc28, iod28, .func (PySem.W.fnOf "__init__" "NoPlace.__init__" (defArgs (initOf 29)) (defBody (initOf 29)) (defScope (initOf 29)) .none ikV28 idc28 ipm28 ian28 icd28 ict28), isl28⟩) (ic28 : PySem.W.codeIn K icd28 "NoPlace.__init__" = true) (ik28 : PySem.W.keepIn K (.ref I28) = true) (it28 : PySem.W.typeIn K (.ref I28) = some (.type "function")) (fi28_0 : PySem.W.findIn K (.ref D28) "path" = some none)
    (na29 : PySem.W.nsIn K mainGlobals "NoRule" = some (some (.ref D29))) (er29 : erB K D29 1 = true) (hi29 : PySem.W.findIn K (.ref D29) "__init__" = some (some (.ref I29))) (il29 : K.lookup I29 = some ⟨ioc29, iod29, .func (PySem.W.fnOf "__init__" "NoRule.__init__" (defArgs (initOf 30)) (defBody (initOf 30)) (defScope (initOf 30)) .none ikV29 idc29 ipm29 ian29 icd29 ict29), isl29⟩) (ic29 : PySem.W.codeIn K icd29 "NoRule.__init__" = true) (ik29 : PySem.W.keepIn K (.ref I29) = true) (it29 : PySem.W.typeIn K (.ref I29) = some (.type "function")) (fi29_0 : PySem.W.findIn K (.ref D29) "value" = some none) (fi29_1 : PySem.W.findIn K (.ref D29) "path" = some none)
    (na30 : PySem.W.nsIn K mainGlobals "NoColumn" = some (some (.ref D30))) (er30 : erB K D30 1 = true) (hi30 : PySem.W.findIn K (.ref D30) "__init__" = some (some (.ref I30))) (il30 : K.lookup I30 = some ⟨ioc30, iod30, .func (PySem.W.fnOf "__init__" "NoColumn.__init__" (defArgs (initOf 31)) (defBody (initOf 31)) (defScope (initOf 31)) .none ikV30 idc30 ipm30 ian30 icd30 ict30), isl30⟩) (ic30 : PySem.W.codeIn K icd30 "NoColumn.__init__" = true) (ik30 : PySem.W.keepIn K (.ref I30) = true) (it30 : PySem.W.typeIn K (.ref I30) = some (.type "function")) (fi30_0 : PySem.W.findIn K (.ref D30) "value" = some none)
    (na31 : PySem.W.nsIn K mainGlobals "TooMany" = some (some (.ref D31))) (er31 : erB K D31 3 = true) (hi31 : PySem.W.findIn K (.ref D31) "__init__" = some (some (.ref I31))) (il31 : K.lookup I31 = some ⟨ioc31, iod31, .func (PySem.W.fnOf "__init__" "TooMany.__init__" (defArgs (initOf 32)) (defBody (initOf 32)) (defScope (initOf 32)) .none ikV31 idc31 ipm31 ian31 icd31 ict31), isl31⟩) (ic31 : PySem.W.codeIn K icd31 "TooMany.__init__" = true) (ik31 : PySem.W.keepIn K (.ref I31) = true) (it31 : PySem.W.typeIn K (.ref I31) = some (.type "function")) (fi31_0 : PySem.W.findIn K (.ref D31) "limit" = some none)
    (na32 : PySem.W.nsIn K mainGlobals "Several" = some (some (.ref D32))) (er32 : erB K D32 4 = true) (ex32 : PySem.W.excIn K D32 [.type "RuntimeError", .type "Exception", .type "BaseException", .type "object"] "RuntimeError.__new__" = true)
    (na33 : PySem.W.nsIn K mainGlobals "InUse" = some (some (.ref D33))) (er33 : erB K D33 4 = true) (hi33 : PySem.W.findIn K (.ref D33) "__init__" = some (some (.ref I33))) (il33 : K.lookup I33 = some ⟨ioc33, iod33, .func (PySem.W.fnOf "__init__" "InUse.__init__" (defArgs (initOf 34)) (defBody (initOf 34)) (defScope (initOf 34)) .none ikV33 idc33 ipm33 ian33 icd33 ict33), isl33⟩) (ic33 : PySem.W.codeIn K icd33 "InUse.__init__" = true) (ik33 : PySem.W.keepIn K (.ref I33) = true) (it33 : PySem.W.typeIn K (.ref I33) = some (.type "function")) (fi33_0 : PySem.W.findIn K (.ref D33) "word" = some none)
    (na34 : PySem.W.nsIn K mainGlobals "NothingToUndo" = some (some (.ref D34))) (er34 : erB K D34 4 = true) (ex34 : PySem.W.excIn K D34 [.type "RuntimeError", .type "Exception", .type "BaseException", .type "object"] "RuntimeError.__new__" = true)
    (na35 : PySem.W.nsIn K mainGlobals "NothingToRedo" = some (some (.ref D35))) (er35 : erB K D35 4 = true) (ex35 : PySem.W.excIn K D35 [.type "RuntimeError", .type "Exception", .type "BaseException", .type "object"] "RuntimeError.__new__" = true)
    (kk : kkB K [D0, D1, D2, D3, D4, D5, D6, D7, D8, D9, D10, D11, D12, D13, D14, D15, D16, D17, D18, D19, D20, D21, D22, D23, D24, D25, D26, D27, D28, D29, D30, D31, D32, D33, D34, D35] = true) (p12 : decide (P1 ≠ P2 ∧ P1 ≠ P3 ∧ P2 ≠ P3) = true) :
    ∃ fd : FuncData, Fun K "law" "law" sLaw fa fd ∧ (∀ (s : Shared) (u : Value), BindsTo s fd ⟨[u], []⟩ [("_law_script", u)]) ∧ ∀ (base : Heap) (s₁ : Shared) (H : Hp) (a : Addr) (ns : List Int) (cdv : Value), K.In base → base.Ns mainGlobals mg → (∀ q ∈ [(c1, P1), (c2, P2), (c3, P3)], TabB base mg q.1 q.2) → (∀ q ∈ [(c1, P1), (c2, P2), (c3, P3)], H q.2 = some (.tbl #[])) → SqL K H a (ns.map V.int) → ns.length ≤ 63 →
      Room 4 (callerA.deeper (envOfC "law" (defScope sLaw) s₁.heap.objs.size fa cdv)) → (callerA.deeper (envOfC "law" (defScope sLaw) s₁.heap.objs.size fa cdv)).guards = some [] →
      ∃ t, PSs (cxOf CX0 l.prog w K mg base n_law "law" (defScope sLaw) fa cdv callerA [] s₁ H fun _ _ _ => False).nox (defBody sLaw) t ∧ t { nx := fun _ _ => V.non = V.bl true, rt := fun v _ => v = .bl true } (start n_law [.ref a]) H := by
  have e := hfa.symm.trans (PySem.W.mg_of X G a12)
  cases e
  have B : Blt mg := ⟨PySem.W.mg_none_of X G z0, PySem.W.mg_none_of X G z1, PySem.W.mg_none_of X G z2, PySem.W.mg_none_of X G z3, PySem.W.mg_none_of X G z4, PySem.W.mg_none_of X G z5, PySem.W.mg_none_of X G z6, PySem.W.mg_none_of X G z7, PySem.W.mg_none_of X G z8, PySem.W.mg_none_of X G z9⟩
  have F1 := fun_mk (st := sBegin) l1 c1_ k1
  have b1 := F1.binds (ps := ["_law_script"]) fun _ _ _ _ _ _ us hl => match us, hl with | [_], _ => rfl
  have F2 := fun_mk (st := sDraw) l2 c2_ k2
  have b2 := F2.binds (ps := ["_law_tape", "_law_many"]) fun _ _ _ _ _ _ us hl => match us, hl with | [_, _], _ => rfl
  have F3 := fun_mk (st := sPick) l3 c3_ k3
  have b3 := F3.binds (ps := ["_law_tape", "_law_items"]) fun _ _ _ _ _ _ us hl => match us, hl with | [_, _], _ => rfl
  have F4 := fun_mk (st := sOdd) l4 c4_ k4
  have b4 := F4.binds (ps := ["_law_tape"]) fun _ _ _ _ _ _ us hl => match us, hl with | [_], _ => rfl
  have F5 := fun_mk (st := sVE) l5 c5_ k5
  have b5 := F5.binds (ps := ["_law_x", "_law_y"]) fun _ _ _ _ _ _ us hl => match us, hl with | [_, _], _ => rfl
  have F6 := fun_mk (st := sME) l6 c6_ k6
  have b6 := F6.binds (ps := ["_law_x", "_law_y"]) fun _ _ _ _ _ _ us hl => match us, hl with | [_, _], _ => rfl
  have F7 := fun_mk (st := sOE) l7 c7_ k7
  have b7 := F7.binds (ps := ["_law_x", "_law_y"]) fun _ _ _ _ _ _ us hl => match us, hl with | [_, _], _ => rfl
  have F8 := fun_mk (st := sVK) l8 c8_ k8
  have b8 := F8.binds (ps := ["_law_e"]) fun _ _ _ _ _ _ us hl => match us, hl with | [_], _ => rfl
  have F9 := fun_mk (st := sMK) l9 c9_ k9
  have b9 := F9.binds (ps := ["_law_e"]) fun _ _ _ _ _ _ us hl => match us, hl with | [_], _ => rfl
  have F10 := fun_mk (st := sOK) l10 c10_ k10
  have b10 := F10.binds (ps := ["_law_e"]) fun _ _ _ _ _ _ us hl => match us, hl with | [_], _ => rfl
  have F11 := fun_mk (st := sBas) l11 c11_ k11
  have b11 := F11.binds (ps := ["_law_e"]) fun _ _ _ _ _ _ us hl => match us, hl with | [_], _ => rfl
  have F12 := fun_mk (st := sLaw) l12 c12_ k12
  refine ⟨_, F12, fun s v => .of_eq rfl, fun base s₁ H a ns cdv _ _ TB HT hS _ hr hg => ?_⟩
  have J0 := fun_mk (st := initOf 1) il0 ic0 ik0
  have e0 : One l.prog w K mg base [D0, D1, D2, D3, D4, D5, D6, D7, D8, D9, D10, D11, D12, D13, D14, D15, D16, D17, D18, D19, D20, D21, D22, D23, D24, D25, D26, D27, D28, D29, D30, D31, D32, D33, D34, D35] 0 0 "InvalidSchema" "word" := one_mk J0 rfl ⟨rfl, rfl, rfl, by decide +kernel, rfl, by decide +kernel, by decide +kernel⟩ (.inl rfl) (.inl rfl) (by decide) (by decide) (J0.binds (ps := ["self", "word"]) fun _ _ _ _ _ _ us hl => match us, hl with | [_, _], _ => rfl) rfl (PySem.W.mg_of X G na0) er0 hi0 it0 fi0_0
  have J1 := fun_mk (st := initOf 2) il1 ic1 ik1
  have e1 : One l.prog w K mg base [D0, D1, D2, D3, D4, D5, D6, D7, D8, D9, D10, D11, D12, D13, D14, D15, D16, D17, D18, D19, D20, D21, D22, D23, D24, D25, D26, D27, D28, D29, D30, D31, D32, D33, D34, D35] 1 0 "InvalidRows" "word" := one_mk J1 rfl ⟨rfl, rfl, rfl, by decide +kernel, rfl, by decide +kernel, by decide +kernel⟩ (.inl rfl) (.inl rfl) (by decide) (by decide) (J1.binds (ps := ["self", "word"]) fun _ _ _ _ _ _ us hl => match us, hl with | [_, _], _ => rfl) rfl (PySem.W.mg_of X G na1) er1 hi1 it1 fi1_0
  have J2 := fun_mk (st := initOf 3) il2 ic2 ik2
  have e2 : One l.prog w K mg base [D0, D1, D2, D3, D4, D5, D6, D7, D8, D9, D10, D11, D12, D13, D14, D15, D16, D17, D18, D19, D20, D21, D22, D23, D24, D25, D26, D27, D28, D29, D30, D31, D32, D33, D34, D35] 2 0 "Broken" "found" := one_mk J2 rfl ⟨rfl, rfl, rfl, by decide +kernel, rfl, by decide +kernel, by decide +kernel⟩ (.inl rfl) (.inl rfl) (by decide) (by decide) (J2.binds (ps := ["self", "found"]) fun _ _ _ _ _ _ us hl => match us, hl with | [_, _], _ => rfl) rfl (PySem.W.mg_of X G na2) er2 hi2 it2 fi2_0
  have J3 := fun_mk (st := initOf 4) il3 ic3 ik3
  have e3 : One l.prog w K mg base [D0, D1, D2, D3, D4, D5, D6, D7, D8, D9, D10, D11, D12, D13, D14, D15, D16, D17, D18, D19, D20, D21, D22, D23, D24, D25, D26, D27, D28, D29, D30, D31, D32, D33, D34, D35] 3 0 "SameName" "word" := one_mk J3 rfl ⟨rfl, rfl, rfl, by decide +kernel, rfl, by decide +kernel, by decide +kernel⟩ (.inl rfl) (.inl rfl) (by decide) (by decide) (J3.binds (ps := ["self", "word"]) fun _ _ _ _ _ _ us hl => match us, hl with | [_, _], _ => rfl) rfl (PySem.W.mg_of X G na3) er3 hi3 it3 fi3_0
  have J4 := fun_mk (st := initOf 5) il4 ic4 ik4
  have e4 : One l.prog w K mg base [D0, D1, D2, D3, D4, D5, D6, D7, D8, D9, D10, D11, D12, D13, D14, D15, D16, D17, D18, D19, D20, D21, D22, D23, D24, D25, D26, D27, D28, D29, D30, D31, D32, D33, D34, D35] 4 0 "BadGroup" "word" := one_mk J4 rfl ⟨rfl, rfl, rfl, by decide +kernel, rfl, by decide +kernel, by decide +kernel⟩ (.inl rfl) (.inl rfl) (by decide) (by decide) (J4.binds (ps := ["self", "word"]) fun _ _ _ _ _ _ us hl => match us, hl with | [_, _], _ => rfl) rfl (PySem.W.mg_of X G na4) er4 hi4 it4 fi4_0
  have J5 := fun_mk (st := initOf 6) il5 ic5 ik5
  have e5 : One l.prog w K mg base [D0, D1, D2, D3, D4, D5, D6, D7, D8, D9, D10, D11, D12, D13, D14, D15, D16, D17, D18, D19, D20, D21, D22, D23, D24, D25, D26, D27, D28, D29, D30, D31, D32, D33, D34, D35] 5 0 "BadAggregate" "word" := one_mk J5 rfl ⟨rfl, rfl, rfl, by decide +kernel, rfl, by decide +kernel, by decide +kernel⟩ (.inl rfl) (.inl rfl) (by decide) (by decide) (J5.binds (ps := ["self", "word"]) fun _ _ _ _ _ _ us hl => match us, hl with | [_, _], _ => rfl) rfl (PySem.W.mg_of X G na5) er5 hi5 it5 fi5_0
  have J6 := fun_mk (st := initOf 7) il6 ic6 ik6
  have e6 : One l.prog w K mg base [D0, D1, D2, D3, D4, D5, D6, D7, D8, D9, D10, D11, D12, D13, D14, D15, D16, D17, D18, D19, D20, D21, D22, D23, D24, D25, D26, D27, D28, D29, D30, D31, D32, D33, D34, D35] 6 0 "BadKind" "word" := one_mk J6 rfl ⟨rfl, rfl, rfl, by decide +kernel, rfl, by decide +kernel, by decide +kernel⟩ (.inl rfl) (.inl rfl) (by decide) (by decide) (J6.binds (ps := ["self", "word"]) fun _ _ _ _ _ _ us hl => match us, hl with | [_, _], _ => rfl) rfl (PySem.W.mg_of X G na6) er6 hi6 it6 fi6_0
  have J7 := fun_mk (st := initOf 8) il7 ic7 ik7
  have e7 : One l.prog w K mg base [D0, D1, D2, D3, D4, D5, D6, D7, D8, D9, D10, D11, D12, D13, D14, D15, D16, D17, D18, D19, D20, D21, D22, D23, D24, D25, D26, D27, D28, D29, D30, D31, D32, D33, D34, D35] 7 0 "BadShape" "word" := one_mk J7 rfl ⟨rfl, rfl, rfl, by decide +kernel, rfl, by decide +kernel, by decide +kernel⟩ (.inl rfl) (.inl rfl) (by decide) (by decide) (J7.binds (ps := ["self", "word"]) fun _ _ _ _ _ _ us hl => match us, hl with | [_, _], _ => rfl) rfl (PySem.W.mg_of X G na7) er7 hi7 it7 fi7_0
  have J8 := fun_mk (st := initOf 9) il8 ic8 ik8
  have e8 : One l.prog w K mg base [D0, D1, D2, D3, D4, D5, D6, D7, D8, D9, D10, D11, D12, D13, D14, D15, D16, D17, D18, D19, D20, D21, D22, D23, D24, D25, D26, D27, D28, D29, D30, D31, D32, D33, D34, D35] 8 0 "NoQuestion" "place" := one_mk J8 rfl ⟨rfl, rfl, rfl, by decide +kernel, rfl, by decide +kernel, by decide +kernel⟩ (.inl rfl) (.inl rfl) (by decide) (by decide) (J8.binds (ps := ["self", "place"]) fun _ _ _ _ _ _ us hl => match us, hl with | [_, _], _ => rfl) rfl (PySem.W.mg_of X G na8) er8 hi8 it8 fi8_0
  have J9 := fun_mk (st := initOf 10) il9 ic9 ik9
  have e9 : One l.prog w K mg base [D0, D1, D2, D3, D4, D5, D6, D7, D8, D9, D10, D11, D12, D13, D14, D15, D16, D17, D18, D19, D20, D21, D22, D23, D24, D25, D26, D27, D28, D29, D30, D31, D32, D33, D34, D35] 9 0 "BadParameter" "word" := one_mk J9 rfl ⟨rfl, rfl, rfl, by decide +kernel, rfl, by decide +kernel, by decide +kernel⟩ (.inl rfl) (.inl rfl) (by decide) (by decide) (J9.binds (ps := ["self", "word"]) fun _ _ _ _ _ _ us hl => match us, hl with | [_, _], _ => rfl) rfl (PySem.W.mg_of X G na9) er9 hi9 it9 fi9_0
  have J10 := fun_mk (st := initOf 11) il10 ic10 ik10
  have e10 : One l.prog w K mg base [D0, D1, D2, D3, D4, D5, D6, D7, D8, D9, D10, D11, D12, D13, D14, D15, D16, D17, D18, D19, D20, D21, D22, D23, D24, D25, D26, D27, D28, D29, D30, D31, D32, D33, D34, D35] 10 0 "InvalidPlan" "word" := one_mk J10 rfl ⟨rfl, rfl, rfl, by decide +kernel, rfl, by decide +kernel, by decide +kernel⟩ (.inl rfl) (.inl rfl) (by decide) (by decide) (J10.binds (ps := ["self", "word"]) fun _ _ _ _ _ _ us hl => match us, hl with | [_, _], _ => rfl) rfl (PySem.W.mg_of X G na10) er10 hi10 it10 fi10_0
  have J11 := fun_mk (st := initOf 12) il11 ic11 ik11
  have e11 : One l.prog w K mg base [D0, D1, D2, D3, D4, D5, D6, D7, D8, D9, D10, D11, D12, D13, D14, D15, D16, D17, D18, D19, D20, D21, D22, D23, D24, D25, D26, D27, D28, D29, D30, D31, D32, D33, D34, D35] 11 0 "FreeColumns" "value" := one_mk J11 rfl ⟨rfl, rfl, rfl, by decide +kernel, rfl, by decide +kernel, by decide +kernel⟩ (.inl rfl) (.inl rfl) (by decide) (by decide) (J11.binds (ps := ["self", "value"]) fun _ _ _ _ _ _ us hl => match us, hl with | [_, _], _ => rfl) rfl (PySem.W.mg_of X G na11) er11 hi11 it11 fi11_0
  have J12 := fun_mk (st := initOf 13) il12 ic12 ik12
  have e12 : One l.prog w K mg base [D0, D1, D2, D3, D4, D5, D6, D7, D8, D9, D10, D11, D12, D13, D14, D15, D16, D17, D18, D19, D20, D21, D22, D23, D24, D25, D26, D27, D28, D29, D30, D31, D32, D33, D34, D35] 12 0 "BadColumns" "word" := one_mk J12 rfl ⟨rfl, rfl, rfl, by decide +kernel, rfl, by decide +kernel, by decide +kernel⟩ (.inl rfl) (.inl rfl) (by decide) (by decide) (J12.binds (ps := ["self", "word"]) fun _ _ _ _ _ _ us hl => match us, hl with | [_, _], _ => rfl) rfl (PySem.W.mg_of X G na12) er12 hi12 it12 fi12_0
  have J13 := fun_mk (st := initOf 14) il13 ic13 ik13
  have e13 : One l.prog w K mg base [D0, D1, D2, D3, D4, D5, D6, D7, D8, D9, D10, D11, D12, D13, D14, D15, D16, D17, D18, D19, D20, D21, D22, D23, D24, D25, D26, D27, D28, D29, D30, D31, D32, D33, D34, D35] 13 0 "NoRoad" "index" := one_mk J13 rfl ⟨rfl, rfl, rfl, by decide +kernel, rfl, by decide +kernel, by decide +kernel⟩ (.inl rfl) (.inl rfl) (by decide) (by decide) (J13.binds (ps := ["self", "index"]) fun _ _ _ _ _ _ us hl => match us, hl with | [_, _], _ => rfl) rfl (PySem.W.mg_of X G na13) er13 hi13 it13 fi13_0
  have J14 := fun_mk (st := initOf 15) il14 ic14 ik14
  have e14 : One l.prog w K mg base [D0, D1, D2, D3, D4, D5, D6, D7, D8, D9, D10, D11, D12, D13, D14, D15, D16, D17, D18, D19, D20, D21, D22, D23, D24, D25, D26, D27, D28, D29, D30, D31, D32, D33, D34, D35] 14 0 "InvalidCount" "value" := one_mk J14 rfl ⟨rfl, rfl, rfl, by decide +kernel, rfl, by decide +kernel, by decide +kernel⟩ (.inl rfl) (.inl rfl) (by decide) (by decide) (J14.binds (ps := ["self", "value"]) fun _ _ _ _ _ _ us hl => match us, hl with | [_, _], _ => rfl) rfl (PySem.W.mg_of X G na14) er14 hi14 it14 fi14_0
  have J15 := fun_mk (st := initOf 16) il15 ic15 ik15
  have e15 : One l.prog w K mg base [D0, D1, D2, D3, D4, D5, D6, D7, D8, D9, D10, D11, D12, D13, D14, D15, D16, D17, D18, D19, D20, D21, D22, D23, D24, D25, D26, D27, D28, D29, D30, D31, D32, D33, D34, D35] 15 0 "InvalidStore" "word" := one_mk J15 rfl ⟨rfl, rfl, rfl, by decide +kernel, rfl, by decide +kernel, by decide +kernel⟩ (.inl rfl) (.inl rfl) (by decide) (by decide) (J15.binds (ps := ["self", "word"]) fun _ _ _ _ _ _ us hl => match us, hl with | [_, _], _ => rfl) rfl (PySem.W.mg_of X G na15) er15 hi15 it15 fi15_0
  have J16 := fun_mk (st := initOf 17) il16 ic16 ik16
  have e16 : One l.prog w K mg base [D0, D1, D2, D3, D4, D5, D6, D7, D8, D9, D10, D11, D12, D13, D14, D15, D16, D17, D18, D19, D20, D21, D22, D23, D24, D25, D26, D27, D28, D29, D30, D31, D32, D33, D34, D35] 16 0 "NotFlat" "path" := one_mk J16 rfl ⟨rfl, rfl, rfl, by decide +kernel, rfl, by decide +kernel, by decide +kernel⟩ (.inl rfl) (.inl rfl) (by decide) (by decide) (J16.binds (ps := ["self", "path"]) fun _ _ _ _ _ _ us hl => match us, hl with | [_, _], _ => rfl) rfl (PySem.W.mg_of X G na16) er16 hi16 it16 fi16_0
  have J17 := fun_mk (st := initOf 18) il17 ic17 ik17
  have e17 : One l.prog w K mg base [D0, D1, D2, D3, D4, D5, D6, D7, D8, D9, D10, D11, D12, D13, D14, D15, D16, D17, D18, D19, D20, D21, D22, D23, D24, D25, D26, D27, D28, D29, D30, D31, D32, D33, D34, D35] 17 0 "BadWay" "path" := one_mk J17 rfl ⟨rfl, rfl, rfl, by decide +kernel, rfl, by decide +kernel, by decide +kernel⟩ (.inl rfl) (.inl rfl) (by decide) (by decide) (J17.binds (ps := ["self", "path"]) fun _ _ _ _ _ _ us hl => match us, hl with | [_, _], _ => rfl) rfl (PySem.W.mg_of X G na17) er17 hi17 it17 fi17_0
  have J18 := fun_mk (st := initOf 19) il18 ic18 ik18
  have e18 : One l.prog w K mg base [D0, D1, D2, D3, D4, D5, D6, D7, D8, D9, D10, D11, D12, D13, D14, D15, D16, D17, D18, D19, D20, D21, D22, D23, D24, D25, D26, D27, D28, D29, D30, D31, D32, D33, D34, D35] 18 0 "InvalidName" "value" := one_mk J18 rfl ⟨rfl, rfl, rfl, by decide +kernel, rfl, by decide +kernel, by decide +kernel⟩ (.inl rfl) (.inl rfl) (by decide) (by decide) (J18.binds (ps := ["self", "value"]) fun _ _ _ _ _ _ us hl => match us, hl with | [_, _], _ => rfl) rfl (PySem.W.mg_of X G na18) er18 hi18 it18 fi18_0
  have J19 := fun_mk (st := initOf 20) il19 ic19 ik19
  have e19 : One l.prog w K mg base [D0, D1, D2, D3, D4, D5, D6, D7, D8, D9, D10, D11, D12, D13, D14, D15, D16, D17, D18, D19, D20, D21, D22, D23, D24, D25, D26, D27, D28, D29, D30, D31, D32, D33, D34, D35] 19 0 "InvalidChange" "index" := one_mk J19 rfl ⟨rfl, rfl, rfl, by decide +kernel, rfl, by decide +kernel, by decide +kernel⟩ (.inl rfl) (.inl rfl) (by decide) (by decide) (J19.binds (ps := ["self", "index"]) fun _ _ _ _ _ _ us hl => match us, hl with | [_, _], _ => rfl) rfl (PySem.W.mg_of X G na19) er19 hi19 it19 fi19_0
  have J20 := fun_mk (st := initOf 21) il20 ic20 ik20
  have e20 : One l.prog w K mg base [D0, D1, D2, D3, D4, D5, D6, D7, D8, D9, D10, D11, D12, D13, D14, D15, D16, D17, D18, D19, D20, D21, D22, D23, D24, D25, D26, D27, D28, D29, D30, D31, D32, D33, D34, D35] 20 0 "WrongWidth" "index" := one_mk J20 rfl ⟨rfl, rfl, rfl, by decide +kernel, rfl, by decide +kernel, by decide +kernel⟩ (.inl rfl) (.inl rfl) (by decide) (by decide) (J20.binds (ps := ["self", "index"]) fun _ _ _ _ _ _ us hl => match us, hl with | [_, _], _ => rfl) rfl (PySem.W.mg_of X G na20) er20 hi20 it20 fi20_0
  have J21 := fun_mk (st := initOf 22) il21 ic21 ik21
  have e21 : One l.prog w K mg base [D0, D1, D2, D3, D4, D5, D6, D7, D8, D9, D10, D11, D12, D13, D14, D15, D16, D17, D18, D19, D20, D21, D22, D23, D24, D25, D26, D27, D28, D29, D30, D31, D32, D33, D34, D35] 21 0 "InvalidText" "line" := one_mk J21 rfl ⟨rfl, rfl, rfl, by decide +kernel, rfl, by decide +kernel, by decide +kernel⟩ (.inl rfl) (.inl rfl) (by decide) (by decide) (J21.binds (ps := ["self", "line"]) fun _ _ _ _ _ _ us hl => match us, hl with | [_, _], _ => rfl) rfl (PySem.W.mg_of X G na21) er21 hi21 it21 fi21_0
  have J22 := fun_mk (st := initOf 23) il22 ic22 ik22
  have e22 : One l.prog w K mg base [D0, D1, D2, D3, D4, D5, D6, D7, D8, D9, D10, D11, D12, D13, D14, D15, D16, D17, D18, D19, D20, D21, D22, D23, D24, D25, D26, D27, D28, D29, D30, D31, D32, D33, D34, D35] 22 2 "UnknownTable" "word" := one_mk J22 rfl ⟨rfl, rfl, rfl, by decide +kernel, rfl, by decide +kernel, by decide +kernel⟩ (.inl rfl) (.inl rfl) (by decide) (by decide) (J22.binds (ps := ["self", "word"]) fun _ _ _ _ _ _ us hl => match us, hl with | [_, _], _ => rfl) rfl (PySem.W.mg_of X G na22) er22 hi22 it22 fi22_0
  have J23 := fun_mk (st := initOf 24) il23 ic23 ik23
  have e23 : Two l.prog w K mg base [D0, D1, D2, D3, D4, D5, D6, D7, D8, D9, D10, D11, D12, D13, D14, D15, D16, D17, D18, D19, D20, D21, D22, D23, D24, D25, D26, D27, D28, D29, D30, D31, D32, D33, D34, D35] 23 2 "UnknownColumn" "alias" "word" := two_mk J23 rfl ⟨rfl, rfl, rfl, by decide +kernel, rfl, by decide +kernel, by decide +kernel⟩ (.inl rfl) (.inl rfl) (.inl rfl) (by decide) (by decide) (by decide) (by decide) (J23.binds (ps := ["self", "alias", "word"]) fun _ _ _ _ _ _ us hl => match us, hl with | [_, _, _], _ => rfl) rfl (PySem.W.mg_of X G na23) er23 hi23 it23 fi23_0 fi23_1
  have J24 := fun_mk (st := initOf 25) il24 ic24 ik24
  have e24 : One l.prog w K mg base [D0, D1, D2, D3, D4, D5, D6, D7, D8, D9, D10, D11, D12, D13, D14, D15, D16, D17, D18, D19, D20, D21, D22, D23, D24, D25, D26, D27, D28, D29, D30, D31, D32, D33, D34, D35] 24 2 "UnknownRule" "value" := one_mk J24 rfl ⟨rfl, rfl, rfl, by decide +kernel, rfl, by decide +kernel, by decide +kernel⟩ (.inl rfl) (.inl rfl) (by decide) (by decide) (J24.binds (ps := ["self", "value"]) fun _ _ _ _ _ _ us hl => match us, hl with | [_, _], _ => rfl) rfl (PySem.W.mg_of X G na24) er24 hi24 it24 fi24_0
  have J25 := fun_mk (st := initOf 26) il25 ic25 ik25
  have e25 : One l.prog w K mg base [D0, D1, D2, D3, D4, D5, D6, D7, D8, D9, D10, D11, D12, D13, D14, D15, D16, D17, D18, D19, D20, D21, D22, D23, D24, D25, D26, D27, D28, D29, D30, D31, D32, D33, D34, D35] 25 2 "UnknownView" "value" := one_mk J25 rfl ⟨rfl, rfl, rfl, by decide +kernel, rfl, by decide +kernel, by decide +kernel⟩ (.inl rfl) (.inl rfl) (by decide) (by decide) (J25.binds (ps := ["self", "value"]) fun _ _ _ _ _ _ us hl => match us, hl with | [_, _], _ => rfl) rfl (PySem.W.mg_of X G na25) er25 hi25 it25 fi25_0
  have J26 := fun_mk (st := initOf 27) il26 ic26 ik26
  have e26 : One l.prog w K mg base [D0, D1, D2, D3, D4, D5, D6, D7, D8, D9, D10, D11, D12, D13, D14, D15, D16, D17, D18, D19, D20, D21, D22, D23, D24, D25, D26, D27, D28, D29, D30, D31, D32, D33, D34, D35] 26 2 "UnknownName" "value" := one_mk J26 rfl ⟨rfl, rfl, rfl, by decide +kernel, rfl, by decide +kernel, by decide +kernel⟩ (.inl rfl) (.inl rfl) (by decide) (by decide) (J26.binds (ps := ["self", "value"]) fun _ _ _ _ _ _ us hl => match us, hl with | [_, _], _ => rfl) rfl (PySem.W.mg_of X G na26) er26 hi26 it26 fi26_0
  have J27 := fun_mk (st := initOf 28) il27 ic27 ik27
  have e27 : One l.prog w K mg base [D0, D1, D2, D3, D4, D5, D6, D7, D8, D9, D10, D11, D12, D13, D14, D15, D16, D17, D18, D19, D20, D21, D22, D23, D24, D25, D26, D27, D28, D29, D30, D31, D32, D33, D34, D35] 27 1 "Ambiguous" "word" := one_mk J27 rfl ⟨rfl, rfl, rfl, by decide +kernel, rfl, by decide +kernel, by decide +kernel⟩ (.inl rfl) (.inl rfl) (by decide) (by decide) (J27.binds (ps := ["self", "word"]) fun _ _ _ _ _ _ us hl => match us, hl with | [_, _], _ => rfl) rfl (PySem.W.mg_of X G na27) er27 hi27 it27 fi27_0
  have J28 := fun_mk (st := initOf 29) il28 ic28 ik28
  have e28 : One l.prog w K mg base [D0, D1, D2, D3, D4, D5, D6, D7, D8, D9, D10, D11, D12, D13, D14, D15, D16, D17, D18, D19, D20, D21, D22, D23, D24, D25, D26, D27, D28, D29, D30, D31, D32, D33, D34, D35] 28 1 "NoPlace" "path" := one_mk J28 rfl ⟨rfl, rfl, rfl, by decide +kernel, rfl, by decide +kernel, by decide +kernel⟩ (.inl rfl) (.inl rfl) (by decide) (by decide) (J28.binds (ps := ["self", "path"]) fun _ _ _ _ _ _ us hl => match us, hl with | [_, _], _ => rfl) rfl (PySem.W.mg_of X G na28) er28 hi28 it28 fi28_0
  have J29 := fun_mk (st := initOf 30) il29 ic29 ik29
  have e29 : Two l.prog w K mg base [D0, D1, D2, D3, D4, D5, D6, D7, D8, D9, D10, D11, D12, D13, D14, D15, D16, D17, D18, D19, D20, D21, D22, D23, D24, D25, D26, D27, D28, D29, D30, D31, D32, D33, D34, D35] 29 1 "NoRule" "value" "path" := two_mk J29 rfl ⟨rfl, rfl, rfl, by decide +kernel, rfl, by decide +kernel, by decide +kernel⟩ (.inl rfl) (.inl rfl) (.inl rfl) (by decide) (by decide) (by decide) (by decide) (J29.binds (ps := ["self", "value", "path"]) fun _ _ _ _ _ _ us hl => match us, hl with | [_, _, _], _ => rfl) rfl (PySem.W.mg_of X G na29) er29 hi29 it29 fi29_0 fi29_1
  have J30 := fun_mk (st := initOf 31) il30 ic30 ik30
  have e30 : One l.prog w K mg base [D0, D1, D2, D3, D4, D5, D6, D7, D8, D9, D10, D11, D12, D13, D14, D15, D16, D17, D18, D19, D20, D21, D22, D23, D24, D25, D26, D27, D28, D29, D30, D31, D32, D33, D34, D35] 30 1 "NoColumn" "value" := one_mk J30 rfl ⟨rfl, rfl, rfl, by decide +kernel, rfl, by decide +kernel, by decide +kernel⟩ (.inl rfl) (.inl rfl) (by decide) (by decide) (J30.binds (ps := ["self", "value"]) fun _ _ _ _ _ _ us hl => match us, hl with | [_, _], _ => rfl) rfl (PySem.W.mg_of X G na30) er30 hi30 it30 fi30_0
  have J31 := fun_mk (st := initOf 32) il31 ic31 ik31
  have e31 : One l.prog w K mg base [D0, D1, D2, D3, D4, D5, D6, D7, D8, D9, D10, D11, D12, D13, D14, D15, D16, D17, D18, D19, D20, D21, D22, D23, D24, D25, D26, D27, D28, D29, D30, D31, D32, D33, D34, D35] 31 3 "TooMany" "limit" := one_mk J31 rfl ⟨rfl, rfl, rfl, by decide +kernel, rfl, by decide +kernel, by decide +kernel⟩ (.inl rfl) (.inl rfl) (by decide) (by decide) (J31.binds (ps := ["self", "limit"]) fun _ _ _ _ _ _ us hl => match us, hl with | [_, _], _ => rfl) rfl (PySem.W.mg_of X G na31) er31 hi31 it31 fi31_0
  have e32 : Nul K mg [D0, D1, D2, D3, D4, D5, D6, D7, D8, D9, D10, D11, D12, D13, D14, D15, D16, D17, D18, D19, D20, D21, D22, D23, D24, D25, D26, D27, D28, D29, D30, D31, D32, D33, D34, D35] 32 4 "Several" := ⟨D32, _, rfl, PySem.W.mg_of X G na32, erB_ok er32, ex32, _, PySem.F.excBase_RuntimeError⟩
  have J33 := fun_mk (st := initOf 34) il33 ic33 ik33
  have e33 : One l.prog w K mg base [D0, D1, D2, D3, D4, D5, D6, D7, D8, D9, D10, D11, D12, D13, D14, D15, D16, D17, D18, D19, D20, D21, D22, D23, D24, D25, D26, D27, D28, D29, D30, D31, D32, D33, D34, D35] 33 4 "InUse" "word" := one_mk J33 rfl ⟨rfl, rfl, rfl, by decide +kernel, rfl, by decide +kernel, by decide +kernel⟩ (.inl rfl) (.inl rfl) (by decide) (by decide) (J33.binds (ps := ["self", "word"]) fun _ _ _ _ _ _ us hl => match us, hl with | [_, _], _ => rfl) rfl (PySem.W.mg_of X G na33) er33 hi33 it33 fi33_0
  have e34 : Nul K mg [D0, D1, D2, D3, D4, D5, D6, D7, D8, D9, D10, D11, D12, D13, D14, D15, D16, D17, D18, D19, D20, D21, D22, D23, D24, D25, D26, D27, D28, D29, D30, D31, D32, D33, D34, D35] 34 4 "NothingToUndo" := ⟨D34, _, rfl, PySem.W.mg_of X G na34, erB_ok er34, ex34, _, PySem.F.excBase_RuntimeError⟩
  have e35 : Nul K mg [D0, D1, D2, D3, D4, D5, D6, D7, D8, D9, D10, D11, D12, D13, D14, D15, D16, D17, D18, D19, D20, D21, D22, D23, D24, D25, D26, D27, D28, D29, D30, D31, D32, D33, D34, D35] 35 4 "NothingToRedo" := ⟨D35, _, rfl, PySem.W.mg_of X G na35, erB_ok er35, ex35, _, PySem.F.excBase_RuntimeError⟩
  have CL : Cls l.prog w K mg base [D0, D1, D2, D3, D4, D5, D6, D7, D8, D9, D10, D11, D12, D13, D14, D15, D16, D17, D18, D19, D20, D21, D22, D23, D24, D25, D26, D27, D28, D29, D30, D31, D32, D33, D34, D35] := ⟨e0, e1, e2, e3, e4, e5, e6, e7, e8, e9, e10, e11, e12, e13, e14, e15, e16, e17, e18, e19, e20, e21, e22, e23, e24, e25, e26, e27, e28, e29, e30, e31, e32, e33, e34, e35⟩
  have KS : KsC K [D0, D1, D2, D3, D4, D5, D6, D7, D8, D9, D10, D11, D12, D13, D14, D15, D16, D17, D18, D19, D20, D21, D22, D23, D24, D25, D26, D27, D28, D29, D30, D31, D32, D33, D34, D35] := kkB_ok rfl kk
  have np := of_decide_eq_true p12
  have tT : Tabs [(P1, (("_law_value_errors" : Str) ++ ".<locals>.") ++ "<lambda>"), (P2, (("_law_more_value_errors" : Str) ++ ".<locals>.") ++ "<lambda>"), (P3, (("_law_other_errors" : Str) ++ ".<locals>.") ++ "<lambda>")] H := List.forall_mem_cons.mpr ⟨TabS.nil (HT (c1, P1) (.head _)), List.forall_mem_cons.mpr ⟨TabS.nil (HT (c2, P2) (.tail _ (.head _))), List.forall_mem_cons.mpr ⟨TabS.nil (HT (c3, P3) (.tail _ (.tail _ (.head _)))), fun _ z => nomatch z⟩⟩⟩
  have E1 : Dn l.prog w K mg base 1 "_law_begin" ["_law_script"] (spBegin K) := ⟨f1, _, PySem.W.mg_of X G a1, k1, b1, ok_begin F1⟩
  have E2 : Dn l.prog w K mg base 1 "_law_draw" ["_law_tape", "_law_many"] spDraw := ⟨f2, _, PySem.W.mg_of X G a2, k2, b2, ok_draw F2 B⟩
  have E3 : Dn l.prog w K mg base 2 "_law_pick" ["_law_tape", "_law_items"] (spPick K) := ⟨f3, _, PySem.W.mg_of X G a3, k3, b3, ok_pick F3 B E2⟩
  have E4 : Dn l.prog w K mg base 3 "_law_odd" ["_law_tape"] (spOdd K) := ⟨f4, _, PySem.W.mg_of X G a4, k4, b4, ok_odd F4 E3⟩
  have E5 : Dn l.prog w K mg base 3 "_law_value_errors" ["_law_x", "_law_y"] (spMk l.prog w K mg base [D0, D1, D2, D3, D4, D5, D6, D7, D8, D9, D10, D11, D12, D13, D14, D15, D16, D17, D18, D19, D20, D21, D22, D23, D24, D25, D26, D27, D28, D29, D30, D31, D32, D33, D34, D35] [(P1, (("_law_value_errors" : Str) ++ ".<locals>.") ++ "<lambda>"), (P2, (("_law_more_value_errors" : Str) ++ ".<locals>.") ++ "<lambda>"), (P3, (("_law_other_errors" : Str) ++ ".<locals>.") ++ "<lambda>")] 0 vVE) := ⟨f5, _, PySem.W.mg_of X G a5, k5, b5, ok_VE ⟨_, _, _, _, _, _, _, _, rfl, l5, c5_⟩ CL (TB (c1, P1) (.head _)) (.head _) (List.forall_mem_cons.mpr ⟨fun _ => rfl, List.forall_mem_cons.mpr ⟨fun z => absurd z.symm np.1, List.forall_mem_cons.mpr ⟨fun z => absurd z.symm np.2.1, fun _ z => nomatch z⟩⟩⟩)⟩
  have E6 : Dn l.prog w K mg base 3 "_law_more_value_errors" ["_law_x", "_law_y"] (spMk l.prog w K mg base [D0, D1, D2, D3, D4, D5, D6, D7, D8, D9, D10, D11, D12, D13, D14, D15, D16, D17, D18, D19, D20, D21, D22, D23, D24, D25, D26, D27, D28, D29, D30, D31, D32, D33, D34, D35] [(P1, (("_law_value_errors" : Str) ++ ".<locals>.") ++ "<lambda>"), (P2, (("_law_more_value_errors" : Str) ++ ".<locals>.") ++ "<lambda>"), (P3, (("_law_other_errors" : Str) ++ ".<locals>.") ++ "<lambda>")] 12 vME) := ⟨f6, _, PySem.W.mg_of X G a6, k6, b6, ok_ME ⟨_, _, _, _, _, _, _, _, rfl, l6, c6_⟩ CL (TB (c2, P2) (.tail _ (.head _))) (.tail _ (.head _)) (List.forall_mem_cons.mpr ⟨fun z => absurd z np.1, List.forall_mem_cons.mpr ⟨fun _ => rfl, List.forall_mem_cons.mpr ⟨fun z => absurd z.symm np.2.2, fun _ z => nomatch z⟩⟩⟩)⟩
  have E7 : Dn l.prog w K mg base 3 "_law_other_errors" ["_law_x", "_law_y"] (spMk l.prog w K mg base [D0, D1, D2, D3, D4, D5, D6, D7, D8, D9, D10, D11, D12, D13, D14, D15, D16, D17, D18, D19, D20, D21, D22, D23, D24, D25, D26, D27, D28, D29, D30, D31, D32, D33, D34, D35] [(P1, (("_law_value_errors" : Str) ++ ".<locals>.") ++ "<lambda>"), (P2, (("_law_more_value_errors" : Str) ++ ".<locals>.") ++ "<lambda>"), (P3, (("_law_other_errors" : Str) ++ ".<locals>.") ++ "<lambda>")] 22 vOE) := ⟨f7, _, PySem.W.mg_of X G a7, k7, b7, ok_OE ⟨_, _, _, _, _, _, _, _, rfl, l7, c7_⟩ CL (TB (c3, P3) (.tail _ (.tail _ (.head _)))) (.tail _ (.tail _ (.head _))) (List.forall_mem_cons.mpr ⟨fun z => absurd z np.2.1, List.forall_mem_cons.mpr ⟨fun z => absurd z np.2.2, List.forall_mem_cons.mpr ⟨fun _ => rfl, fun _ z => nomatch z⟩⟩⟩)⟩
  have E8 : Dn l.prog w K mg base 1 "_law_value_kinds" ["_law_e"] (spKd K [D0, D1, D2, D3, D4, D5, D6, D7, D8, D9, D10, D11, D12, D13, D14, D15, D16, D17, D18, D19, D20, D21, D22, D23, D24, D25, D26, D27, D28, D29, D30, D31, D32, D33, D34, D35] bVK) := ⟨f8, _, PySem.W.mg_of X G a8, k8, b8, ok_VK F8 B CL KS⟩
  have E9 : Dn l.prog w K mg base 1 "_law_more_value_kinds" ["_law_e"] (spKd K [D0, D1, D2, D3, D4, D5, D6, D7, D8, D9, D10, D11, D12, D13, D14, D15, D16, D17, D18, D19, D20, D21, D22, D23, D24, D25, D26, D27, D28, D29, D30, D31, D32, D33, D34, D35] bMK) := ⟨f9, _, PySem.W.mg_of X G a9, k9, b9, ok_MK F9 B CL KS⟩
  have E10 : Dn l.prog w K mg base 1 "_law_other_kinds" ["_law_e"] (spKd K [D0, D1, D2, D3, D4, D5, D6, D7, D8, D9, D10, D11, D12, D13, D14, D15, D16, D17, D18, D19, D20, D21, D22, D23, D24, D25, D26, D27, D28, D29, D30, D31, D32, D33, D34, D35] bOK) := ⟨f10, _, PySem.W.mg_of X G a10, k10, b10, ok_OK F10 B CL KS⟩
  have E11 : Dn l.prog w K mg base 1 "_law_bases" ["_law_e"] (spKd K [D0, D1, D2, D3, D4, D5, D6, D7, D8, D9, D10, D11, D12, D13, D14, D15, D16, D17, D18, D19, D20, D21, D22, D23, D24, D25, D26, D27, D28, D29, D30, D31, D32, D33, D34, D35] bBas) := ⟨f11, _, PySem.W.mg_of X G a11, k11, b11, ok_Bas F11 B KS⟩
  exact law_body B ⟨E1, E4, E5, E6, E7, E8, E9, E10, E11⟩ rfl tT hS hr hg

end Ask
namespace Ask
open PySem PySem.W PySem.Calls PyProof.Rows
/-! ### the head: the top by one run, off a tree; the tables stand empty -/
def obKM (as ts : List Addr) (s : SharedT) : List (Option Obj) × List (Option Obj) := (as.map (HandSHeadRun.getT s), ts.map (HandSHeadRun.getT s))
abbrev qv : Program := PySem.W.view (PySem.W.OpenLaw.row PySem.Challenge.rw_innerasks_k01_errors).prog [1, 2, 3, 4, 5, 6, 7, 8, 9, 10, 11, 12, 13, 14, 15, 16, 17, 18, 19, 20, 21, 22, 23, 24, 25, 26, 27, 28, 29, 30, 31, 32, 33, 34, 35, 36, 38, 39, 40, 41, 42, 43, 44, 45, 46, 47, 48, 49]
theorem head_km {K : Params → PySem.W.Frag} {as : List Addr} {ek : ∀ P, as = (K P).map (·.1)} {ts : List Addr} (Hk : PySem.W.Hook) (eH : Hk = PySem.W.kmHook K as ek ts) {r : PySem.W.OpenRow} {q : Program} {M : Nat} {loose : List Str} {d : DefRec} {kwd : List (Str × Expr)}
    (e : opening r.prog = plainProg r.prog.main.scope.names) (f : ∀ s, fenceModules? r.prog s = some s) (run : ∀ w, HandSHeadRun.RunEq r q (PySem.W.kmHook K as ek ts) (obKM as ts) M loose w)
    (h1 : defOf q r.name = some (d, kwd)) (h2 : r.prog.theDef r.name = some (d.params, d.body, d.scope)) (h3 : kwWritten? d.params.kwonlyargs d.params.kw_defaults = some kwd)
    (h4 : (!r.writes || r.records.isEmpty) = true) (h5 : r.wellSaid = true) (h6 : (chainsOk q && opensWell r.prog && (frees r.toRowW && r.within.isEmpty)) = true) (h7 : r.prog.bare) (h8 : r.toRowW.promised)
    (call : PySem.W.WalkO q loose (PySem.W.XL q []) (PySem.W.kmHook K as ek ts).says r.toRowW d kwd fun f vs => PySem.call f vs) : r.Holds := by
  subst eH
  exact HandSHeadRun.head_any (H := PySem.W.kmHook K as ek ts) (ob := obKM as ts) (fun s => Prod.ext (List.map_congr_left fun a _ => HandSHeadRun.getT_eq s a) (List.map_congr_left fun a _ => HandSHeadRun.getT_eq s a)) e f run h1 h2 h3 h4 h5 h6 h7 h8 call
end Ask
open PySem PySem.W PyProof.Rows
local macro_rules | `(tactic| o_head $H:term) => `(tactic| refine Ask.head_km $H rfl (r := OpenLaw.row PySem.Challenge.rw_innerasks_k01_errors) (q := Ask.qv) (M := 9000) (loose := []) (kwd := []) (by kernel_rfl) (fun s => by kernel_rfl) ?run (by rfl) (by rfl) (by rfl) (by rfl) (by first | assumption | decide +kernel) (by decide +kernel) ⟨rfl, rfl, rfl, rfl, rfl, by decide +kernel⟩ ?hw ?hc)
set_option maxRecDepth 100000 in
set_option maxHeartbeats 0 in
theorem PySem.Challenge.cw_innerasks_k01_errors_holds : PySem.Challenge.rw_innerasks_k01_errors.Holds := by
  w_on; o_law; k_head; (case hw => w_witness2); (case run => (intro w os; kernel_rfl))
  k_fill
  refine' Ask.walk_gT (l := PySem.Challenge.rw_innerasks_k01_errors) (n := 63) (k := 4) (x := "_law_script") (qual := "law") (st := Ask.sLaw) (N := Ask.n_law) (tabs := [(_, 743), (_, 750), (_, 757)]) rfl (by decide) rfl ⟨rfl, by decide, by decide⟩ (fun w h Y => PySem.W.km_in_of Y) ?TI Ask.sc_law ?F
  case F =>
    intro w mg fa h KX G hmg
    refine' Ask.all_mk KX G hmg ?a1 ?l1 ?c1_ ?k1 ?a2 ?l2 ?c2_ ?k2 ?a3 ?l3 ?c3_ ?k3 ?a4 ?l4 ?c4_ ?k4 ?a5 ?l5 ?c5_ ?k5 ?a6 ?l6 ?c6_ ?k6 ?a7 ?l7 ?c7_ ?k7 ?a8 ?l8 ?c8_ ?k8 ?a9 ?l9 ?c9_ ?k9 ?a10 ?l10 ?c10_ ?k10 ?a11 ?l11 ?c11_ ?k11 ?a12 ?l12 ?c12_ ?k12 ?z0 ?z1 ?z2 ?z3 ?z4 ?z5 ?z6 ?z7 ?z8 ?z9 ?na0 ?er0 ?hi0 ?il0 ?ic0 ?ik0 ?it0 ?fi0_0 ?na1 ?er1 ?hi1 ?il1 ?ic1 ?ik1 ?it1 ?fi1_0 ?na2 ?er2 ?hi2 ?il2 ?ic2 ?ik2 ?it2 ?fi2_0 ?na3 ?er3 ?hi3 ?il3 ?ic3 ?ik3 ?it3 ?fi3_0 ?na4 ?er4 ?hi4 ?il4 ?ic4 ?ik4 ?it4 ?fi4_0 ?na5 ?er5 ?hi5 ?il5 ?ic5 ?ik5 ?it5 ?fi5_0 ?na6 ?er6 ?hi6 ?il6 ?ic6 ?ik6 ?it6 ?fi6_0 ?na7 ?er7 ?hi7 ?il7 ?ic7 ?ik7 ?it7 ?fi7_0 ?na8 ?er8 ?hi8 ?il8 ?ic8 ?ik8 ?it8 ?fi8_0 ?na9 ?er9 ?hi9 ?il9 ?ic9 ?ik9 ?it9 ?fi9_0 ?na10 ?er10 ?hi10 ?il10 ?ic10 ?ik10 ?it10 ?fi10_0 ?na11 ?er11 ?hi11 ?il11 ?ic11 ?ik11 ?it11 ?fi11_0 ?na12 ?er12 ?hi12 ?il12 ?ic12 ?ik12 ?it12 ?fi12_0 ?na13 ?er13 ?hi13 ?il13 ?ic13 ?ik13 ?it13 ?fi13_0 ?na14 ?er14 ?hi14 ?il14 ?ic14 ?ik14 ?it14 ?fi14_0 ?na15 ?er15 ?hi15 ?il15 ?ic15 ?ik15 ?it15 ?fi15_0 ?na16 ?er16 ?hi16 ?il16 ?ic16 ?ik16 ?it16 ?fi16_0 ?na17 ?er17 ?hi17 ?il17 ?ic17 ?ik17 ?it17 ?fi17_0 ?na18 ?er18 ?hi18 ?il18 ?ic18 ?ik18 ?it18 ?fi18_0 ?na19 ?er19 ?hi19 ?il19 ?ic19 ?ik19 ?it19 ?fi19_0 ?na20 ?er20 ?hi20 ?il20 ?ic20 ?ik20 ?it20 ?fi20_0 ?na21 ?er21 ?hi21 ?il21 ?ic21 ?ik21 ?it21 ?fi21_0 ?na22 ?er22 ?hi22 ?il22 ?ic22 ?ik22 ?it22 ?fi22_0 ?na23 ?er23 ?hi23 ?il23 ?ic23 ?ik23 ?it23 ?fi23_0 ?fi23_1 ?na24 ?er24 ?hi24 ?il24 ?ic24 ?ik24 ?it24 ?fi24_0 ?na25 ?er25 ?hi25 ?il25 ?ic25 ?ik25 ?it25 ?fi25_0 ?na26 ?er26 ?hi26 ?il26 ?ic26 ?ik26 ?it26 ?fi26_0 ?na27 ?er27 ?hi27 ?il27 ?ic27 ?ik27 ?it27 ?fi27_0 ?na28 ?er28 ?hi28 ?il28 ?ic28 ?ik28 ?it28 ?fi28_0 ?na29 ?er29 ?hi29 ?il29 ?ic29 ?ik29 ?it29 ?fi29_0 ?fi29_1 ?na30 ?er30 ?hi30 ?il30 ?ic30 ?ik30 ?it30 ?fi30_0 ?na31 ?er31 ?hi31 ?il31 ?ic31 ?ik31 ?it31 ?fi31_0 ?na32 ?er32 ?ex32 ?na33 ?er33 ?hi33 ?il33 ?ic33 ?ik33 ?it33 ?fi33_0 ?na34 ?er34 ?ex34 ?na35 ?er35 ?ex35 ?kk ?p12
    (case a1 => k_is)
    (case l1 => k_is)
    (case c1_ => k_is)
    (case k1 => k_is)
    (case a2 => k_is)
    (case l2 => k_is)
    (case c2_ => k_is)
    (case k2 => k_is)
    (case a3 => k_is)
    (case l3 => k_is)
    (case c3_ => k_is)
    (case k3 => k_is)
    (case a4 => k_is)
    (case l4 => k_is)
    (case c4_ => k_is)
    (case k4 => k_is)
    (case a5 => k_is)
    (case l5 => k_is)
    (case c5_ => k_is)
    (case k5 => k_is)
    (case a6 => k_is)
    (case l6 => k_is)
    (case c6_ => k_is)
    (case k6 => k_is)
    (case a7 => k_is)
    (case l7 => k_is)
    (case c7_ => k_is)
    (case k7 => k_is)
    (case a8 => k_is)
    (case l8 => k_is)
    (case c8_ => k_is)
    (case k8 => k_is)
    (case a9 => k_is)
    (case l9 => k_is)
    (case c9_ => k_is)
    (case k9 => k_is)
    (case a10 => k_is)
    (case l10 => k_is)
    (case c10_ => k_is)
    (case k10 => k_is)
    (case a11 => k_is)
    (case l11 => k_is)
    (case c11_ => k_is)
    (case k11 => k_is)
    (case a12 => k_is)
    (case l12 => k_is)
    (case c12_ => k_is)
    (case k12 => k_is)
    (case z0 => k_is)
    (case z1 => k_is)
    (case z2 => k_is)
    (case z3 => k_is)
    (case z4 => k_is)
    (case z5 => k_is)
    (case z6 => k_is)
    (case z7 => k_is)
    (case z8 => k_is)
    (case z9 => k_is)
    (case na0 => k_is)
    (case er0 => kernel_rfl)
    (case hi0 => k_is)
    (case il0 => k_is)
    (case ic0 => k_is)
    (case ik0 => k_is)
    (case it0 => k_is)
    (case fi0_0 => k_is)
    (case na1 => k_is)
    (case er1 => kernel_rfl)
    (case hi1 => k_is)
    (case il1 => k_is)
    (case ic1 => k_is)
    (case ik1 => k_is)
    (case it1 => k_is)
    (case fi1_0 => k_is)
    (case na2 => k_is)
    (case er2 => kernel_rfl)
    (case hi2 => k_is)
    (case il2 => k_is)
    (case ic2 => k_is)
    (case ik2 => k_is)
    (case it2 => k_is)
    (case fi2_0 => k_is)
    (case na3 => k_is)
    (case er3 => kernel_rfl)
    (case hi3 => k_is)
    (case il3 => k_is)
    (case ic3 => k_is)
    (case ik3 => k_is)
    (case it3 => k_is)
    (case fi3_0 => k_is)
    (case na4 => k_is)
    (case er4 => kernel_rfl)
    (case hi4 => k_is)
    (case il4 => k_is)
    (case ic4 => k_is)
    (case ik4 => k_is)
    (case it4 => k_is)
    (case fi4_0 => k_is)
    (case na5 => k_is)
    (case er5 => kernel_rfl)
    (case hi5 => k_is)
    (case il5 => k_is)
    (case ic5 => k_is)
    (case ik5 => k_is)
    (case it5 => k_is)
    (case fi5_0 => k_is)
    (case na6 => k_is)
    (case er6 => kernel_rfl)
    (case hi6 => k_is)
    (case il6 => k_is)
    (case ic6 => k_is)
    (case ik6 => k_is)
    (case it6 => k_is)
    (case fi6_0 => k_is)
    (case na7 => k_is)
    (case er7 => kernel_rfl)
    (case hi7 => k_is)
    (case il7 => k_is)
    (case ic7 => k_is)
    (case ik7 => k_is)
    (case it7 => k_is)
    (case fi7_0 => k_is)
    (case na8 => k_is)
    (case er8 => kernel_rfl)
    (case hi8 => k_is)
    (case il8 => k_is)
    (case ic8 => k_is)
    (case ik8 => k_is)
    (case it8 => k_is)
    (case fi8_0 => k_is)
    (case na9 => k_is)
    (case er9 => kernel_rfl)
    (case hi9 => k_is)
    (case il9 => k_is)
    (case ic9 => k_is)
    (case ik9 => k_is)
    (case it9 => k_is)
    (case fi9_0 => k_is)
    (case na10 => k_is)
    (case er10 => kernel_rfl)
    (case hi10 => k_is)
    (case il10 => k_is)
    (case ic10 => k_is)
    (case ik10 => k_is)
    (case it10 => k_is)
    (case fi10_0 => k_is)
    (case na11 => k_is)
    (case er11 => kernel_rfl)
    (case hi11 => k_is)
    (case il11 => k_is)
    (case ic11 => k_is)
    (case ik11 => k_is)
    (case it11 => k_is)
    (case fi11_0 => k_is)
    (case na12 => k_is)
    (case er12 => kernel_rfl)
    (case hi12 => k_is)
    (case il12 => k_is)
    (case ic12 => k_is)
    (case ik12 => k_is)
    (case it12 => k_is)
    (case fi12_0 => k_is)
    (case na13 => k_is)
    (case er13 => kernel_rfl)
    (case hi13 => k_is)
    (case il13 => k_is)
    (case ic13 => k_is)
    (case ik13 => k_is)
    (case it13 => k_is)
    (case fi13_0 => k_is)
    (case na14 => k_is)
    (case er14 => kernel_rfl)
    (case hi14 => k_is)
    (case il14 => k_is)
    (case ic14 => k_is)
    (case ik14 => k_is)
    (case it14 => k_is)
    (case fi14_0 => k_is)
    (case na15 => k_is)
    (case er15 => kernel_rfl)
    (case hi15 => k_is)
    (case il15 => k_is)
    (case ic15 => k_is)
    (case ik15 => k_is)
    (case it15 => k_is)
    (case fi15_0 => k_is)
    (case na16 => k_is)
    (case er16 => kernel_rfl)
    (case hi16 => k_is)
    (case il16 => k_is)
    (case ic16 => k_is)
    (case ik16 => k_is)
    (case it16 => k_is)
    (case fi16_0 => k_is)
    (case na17 => k_is)
    (case er17 => kernel_rfl)
    (case hi17 => k_is)
    (case il17 => k_is)
    (case ic17 => k_is)
    (case ik17 => k_is)
    (case it17 => k_is)
    (case fi17_0 => k_is)
    (case na18 => k_is)
    (case er18 => kernel_rfl)
    (case hi18 => k_is)
    (case il18 => k_is)
    (case ic18 => k_is)
    (case ik18 => k_is)
    (case it18 => k_is)
    (case fi18_0 => k_is)
    (case na19 => k_is)
    (case er19 => kernel_rfl)
    (case hi19 => k_is)
    (case il19 => k_is)
    (case ic19 => k_is)
    (case ik19 => k_is)
    (case it19 => k_is)
    (case fi19_0 => k_is)
    (case na20 => k_is)
    (case er20 => kernel_rfl)
    (case hi20 => k_is)
    (case il20 => k_is)
    (case ic20 => k_is)
    (case ik20 => k_is)
    (case it20 => k_is)
    (case fi20_0 => k_is)
    (case na21 => k_is)
    (case er21 => kernel_rfl)
    (case hi21 => k_is)
    (case il21 => k_is)
    (case ic21 => k_is)
    (case ik21 => k_is)
    (case it21 => k_is)
    (case fi21_0 => k_is)
    (case na22 => k_is)
    (case er22 => kernel_rfl)
    (case hi22 => k_is)
    (case il22 => k_is)
    (case ic22 => k_is)
    (case ik22 => k_is)
    (case it22 => k_is)
    (case fi22_0 => k_is)
    (case na23 => k_is)
    (case er23 => kernel_rfl)
    (case hi23 => k_is)
    (case il23 => k_is)
    (case ic23 => k_is)
    (case ik23 => k_is)
    (case it23 => k_is)
    (case fi23_0 => k_is)
    (case fi23_1 => k_is)
    (case na24 => k_is)
    (case er24 => kernel_rfl)
    (case hi24 => k_is)
    (case il24 => k_is)
    (case ic24 => k_is)
    (case ik24 => k_is)
    (case it24 => k_is)
    (case fi24_0 => k_is)
    (case na25 => k_is)
    (case er25 => kernel_rfl)
    (case hi25 => k_is)
    (case il25 => k_is)
    (case ic25 => k_is)
    (case ik25 => k_is)
    (case it25 => k_is)
    (case fi25_0 => k_is)
    (case na26 => k_is)
    (case er26 => kernel_rfl)
    (case hi26 => k_is)
    (case il26 => k_is)
    (case ic26 => k_is)
    (case ik26 => k_is)
    (case it26 => k_is)
    (case fi26_0 => k_is)
    (case na27 => k_is)
    (case er27 => kernel_rfl)
    (case hi27 => k_is)
    (case il27 => k_is)
    (case ic27 => k_is)
    (case ik27 => k_is)
    (case it27 => k_is)
    (case fi27_0 => k_is)
    (case na28 => k_is)
    (case er28 => kernel_rfl)
    (case hi28 => k_is)
    (case il28 => k_is)
    (case ic28 => k_is)
    (case ik28 => k_is)
    (case it28 => k_is)
    (case fi28_0 => k_is)
    (case na29 => k_is)
    (case er29 => kernel_rfl)
    (case hi29 => k_is)
    (case il29 => k_is)
    (case ic29 => k_is)
    (case ik29 => k_is)
    (case it29 => k_is)
    (case fi29_0 => k_is)
    (case fi29_1 => k_is)
    (case na30 => k_is)
    (case er30 => kernel_rfl)
    (case hi30 => k_is)
    (case il30 => k_is)
    (case ic30 => k_is)
    (case ik30 => k_is)
    (case it30 => k_is)
    (case fi30_0 => k_is)
    (case na31 => k_is)
    (case er31 => kernel_rfl)
    (case hi31 => k_is)
    (case il31 => k_is)
    (case ic31 => k_is)
    (case ik31 => k_is)
    (case it31 => k_is)
    (case fi31_0 => k_is)
    (case na32 => k_is)
    (case er32 => kernel_rfl)
    (case ex32 => kernel_rfl)
    (case na33 => k_is)
    (case er33 => kernel_rfl)
    (case hi33 => k_is)
    (case il33 => k_is)
    (case ic33 => k_is)
    (case ik33 => k_is)
    (case it33 => k_is)
    (case fi33_0 => k_is)
    (case na34 => k_is)
    (case er34 => kernel_rfl)
    (case ex34 => kernel_rfl)
    (case na35 => k_is)
    (case er35 => kernel_rfl)
    (case ex35 => kernel_rfl)
    (case kk => kernel_rfl)
    (case p12 => rfl)
  case TI =>
    intro w h Y
    have X := PySem.W.km_in_of Y
    refine ⟨List.forall_mem_cons.mpr ⟨PySem.W.km_tabs_of Y _ (by k_mem), List.forall_mem_cons.mpr ⟨PySem.W.km_tabs_of Y _ (by k_mem), List.forall_mem_cons.mpr ⟨PySem.W.km_tabs_of Y _ (by k_mem), fun _ z => nomatch z⟩⟩⟩, List.forall_mem_cons.mpr ⟨?t1, List.forall_mem_cons.mpr ⟨?t2, List.forall_mem_cons.mpr ⟨?t3, fun _ z => nomatch z⟩⟩⟩, List.forall_mem_cons.mpr ⟨PySem.W.codeHd_of_K X ?h1, List.forall_mem_cons.mpr ⟨PySem.W.codeHd_of_K X ?h2, List.forall_mem_cons.mpr ⟨PySem.W.codeHd_of_K X ?h3, fun _ z => nomatch z⟩⟩⟩⟩
    (case t1 => kernel_rfl)
    (case t2 => kernel_rfl)
    (case t3 => kernel_rfl)
    (case h1 => kernel_rfl)
    (case h2 => kernel_rfl)
    (case h3 => kernel_rfl)
