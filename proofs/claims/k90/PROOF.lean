import PyProof.Rows.All
import Wide.All
import OpenK.AllK
import Wide.FinOn
import HandS.ForMost
import HandS.Flow
import HandS.Small
import HandS.IsInst
import HandS.RaiseMore
import HandS.Walk
import HandS.FStr
import HandS.Style
import HandS.Codes
import HandS.Star
import HandS.TupLe
import HandS.Wide
import HandS.Replace
import HandS.ReplaceLit
import HandS.ReplaceDef
import HandS.StrMore
import KE.KDictCopyH
import KE.KTupTabMore
import PySem.Challenge.RW_innerasks_k90_trees_written
set_option Elab.async false
set_option maxRecDepth 100000
set_option maxHeartbeats 4000000
set_option linter.all false
set_option linter.all false
namespace Ask
open PySem L2
def top (i : Nat) : Stmt := PySem.Challenge.pw_innerasks_k90_trees_written.main.body.getD i (.Pass ⟨0, 0, 0, 0⟩)
abbrev sWrite : Stmt := top 1
abbrev sBegin : Stmt := top 3
abbrev sDraw : Stmt := top 4
abbrev sPick : Stmt := top 5
abbrev sTree : Stmt := top 6
abbrev sLeaf : Stmt := top 7
abbrev sDrawn : Stmt := top 8
abbrev sLaw : Stmt := top 9
/-! ### the tape -/
abbrev kCells : Key := Sum.inr "cells"
abbrev kPlace : Key := Sum.inr "place"
abbrev kLeft : Key := Sum.inr "left"
theorem ne_cp : ¬ (kCells = kPlace) := by decide +kernel
theorem ne_cl : ¬ (kCells = kLeft) := by decide +kernel
theorem ne_pl : ¬ (kPlace = kLeft) := by decide +kernel
theorem ne_pc : ¬ (kPlace = kCells) := by decide +kernel
theorem ne_lc : ¬ (kLeft = kCells) := by decide +kernel
theorem ne_lp : ¬ (kLeft = kPlace) := by decide +kernel
def tapeD (c : Addr) (p l : Int) : List (Key × V) := [(kCells, .ref c), (kPlace, .int p), (kLeft, .int l)]
theorem tape_cells (c : Addr) (p l : Int) : valV (tapeD c p l) kCells = some (.ref c) := by
  unfold tapeD; rw [valV_pos rfl]
theorem tape_place (c : Addr) (p l : Int) : valV (tapeD c p l) kPlace = some (.int p) := by
  unfold tapeD; rw [valV_neg ne_cp, valV_pos rfl]
theorem tape_left (c : Addr) (p l : Int) : valV (tapeD c p l) kLeft = some (.int l) := by
  unfold tapeD; rw [valV_neg ne_cl, valV_neg ne_pl, valV_pos rfl]
theorem tape_put_place (c : Addr) (p l q : Int) : putK (tapeD c p l) kPlace (.int q) = tapeD c q l := by
  unfold putK tapeD
  rw [if_pos (by simp)]
  show [if kCells = kPlace then (kCells, V.int q) else (kCells, V.ref c), if kPlace = kPlace then (kPlace, V.int q) else (kPlace, V.int p), if kLeft = kPlace then (kLeft, V.int q) else (kLeft, V.int l)] = _
  rw [if_neg ne_cp, if_pos rfl, if_neg ne_lp]
theorem tape_put_left (c : Addr) (p l q : Int) : putK (tapeD c p l) kLeft (.int q) = tapeD c p q := by
  unfold putK tapeD
  rw [if_pos (by simp)]
  show [if kCells = kLeft then (kCells, V.int q) else (kCells, V.ref c), if kPlace = kLeft then (kPlace, V.int q) else (kPlace, V.int p), if kLeft = kLeft then (kLeft, V.int q) else (kLeft, V.int l)] = _
  rw [if_neg ne_cl, if_neg ne_pl, if_pos rfl]
/-- a tape at d, p draws of cells done -/
def Tape (H : Hp) (d : Addr) (p : Int) : Prop :=
  ∃ (c : Addr) (ns : List Int) (l : Int), H d = some (.dK (tapeD c p l)) ∧ H c = some (.lst (ns.map V.int)) ∧ ns ≠ [] ∧ 0 ≤ l ∧ 0 ≤ p
/-- all that was tracked is as it was, but for d, whose cells are the same -/
structure Off (H H' : Hp) (d : Addr) : Prop where
  keep : ∀ b o, H b = some o → b ≠ d → H' b = some o
  cell : ∀ kvs : List (Key × V), H d = some (.dK kvs) → ∃ kvs' : List (Key × V), H' d = some (.dK kvs') ∧ valV kvs' kCells = valV kvs kCells
instance {H H' : Hp} {d : Addr} : CoeFun (Off H H' d) (fun _ => ∀ b o, H b = some o → b ≠ d → H' b = some o) := ⟨Off.keep⟩
theorem Off.refl (H : Hp) (d : Addr) : Off H H d := ⟨fun _ _ h _ => h, fun kvs h => ⟨kvs, h, rfl⟩⟩
theorem Off.trans {H H1 H2 : Hp} {d : Addr} (a : Off H H1 d) (b : Off H1 H2 d) : Off H H2 d := ⟨fun c o h n => b c o (a c o h n) n, fun kvs h => by
  obtain ⟨k1, h1, e1⟩ := a.cell kvs h
  obtain ⟨k2, h2, e2⟩ := b.cell k1 h1
  exact ⟨k2, h2, e2.trans e1⟩⟩
theorem Off.of_same {H H1 : Hp} {d : Addr} (a : Same H H1) : Off H H1 d := ⟨fun c u h _ => a c u h, fun kvs h => ⟨kvs, a _ _ h, rfl⟩⟩
theorem Off.new {H H1 : Hp} {d p : Addr} (a : Off H H1 d) (hp : H1 p = none) (o : HO) : Off H (L2.upd H1 p o) d := a.trans (.of_same fun b u e => by rw [upd_ne (ne_of_none e hp)]; exact e)
theorem Tape.new {H : Hp} {d p : Addr} {i : Int} (t : Tape H d i) (hp : H p = none) (o : HO) : Tape (L2.upd H p o) d i := by
  obtain ⟨c, ns, l, h1, h2, h3, h4, h5⟩ := t
  exact ⟨c, ns, l, by rw [upd_ne (ne_of_none h1 hp)]; exact h1, by rw [upd_ne (ne_of_none h2 hp)]; exact h2, h3, h4, h5⟩
theorem Tape.same {H H1 : Hp} {d : Addr} {i : Int} (t : Tape H d i) (a : Same H H1) : Tape H1 d i := by
  obtain ⟨c, ns, l, h1, h2, h3, h4, h5⟩ := t
  exact ⟨c, ns, l, a _ _ h1, a _ _ h2, h3, h4, h5⟩
theorem Off.fresh {H H1 : Hp} {d D : Addr} (a : Off H H1 d) (hD : H D = none) (n : d ≠ D) (u : HO) : Off H (L2.upd H1 D u) d :=
  ⟨fun b o e nb => by rw [upd_ne (ne_of_none e hD)]; exact a b o e nb, fun kvs e => by
    obtain ⟨k1, h1, e1⟩ := a.cell kvs e
    exact ⟨k1, by rw [upd_ne n]; exact h1, e1⟩⟩
/-- a list that was made since, changed -/
theorem Tape.fresh {H0 H : Hp} {d D : Addr} {p0 p : Int} (T : Tape H d p) (T0 : Tape H0 d p0) (o : Off H0 H d) (hD : H0 D = none) (u : HO) : Tape (L2.upd H D u) d p := by
  obtain ⟨c0, ns0, l0, u1, u2, u3, u4, u5⟩ := T0
  obtain ⟨c, ns, l, h1, h2, h3, h4, h5⟩ := T
  obtain ⟨kvs, e1, e2⟩ := o.cell _ u1
  rw [h1] at e1
  have e3 : tapeD c p l = kvs := HO.dK.inj (Option.some.inj e1)
  rw [← e3, tape_cells, tape_cells] at e2
  have e4 : c = c0 := V.ref.inj (Option.some.inj e2)
  subst e4
  exact ⟨c, ns, l, by rw [upd_ne (ne_of_none u1 hD)]; exact h1, by rw [upd_ne (ne_of_none u2 hD)]; exact h2, h3, h4, h5⟩
theorem Tape.at {H : Hp} {d : Addr} {i : Int} (t : Tape H d i) : ∃ kvs, H d = some (.dK kvs) := let ⟨_, _, _, h, _⟩ := t; ⟨_, h⟩

/-! ### a def of the text, with all that a caller wants of it -/
structure Dn (P : Program) (w : World) (K : PySem.W.Frag) (mg : Str → Option Value) (base : Heap) (k : Nat) (x : Str) (ps : List Str) (sp : Sp) : Prop where
  ex : ∃ (f : Addr) (fd : FuncData), mg x = some (.ref f) ∧ PySem.W.keepIn K (.ref f) = true ∧ Binds K fd ps [] ∧ FnOk P w K mg base CX0 k f fd ps sp
theorem pe_dn {X : Cx} {k : Nat} {x : Str} {ps : List Str} {sp : Sp} {e : Expr} {es : List Expr} {t : TA} {p pos : Pos} (D : Dn X.prog X.w X.K X.mg X.base k x ps sp) (hr : Room k X.A) (hg : Gl X x) (ha : PA X (e :: es) t) (hdb : (x == ("__debug__" : Str)) = false := by decide)
    (he : starEach (e :: es) X.env = (false, eval e X.env) :: starEach es X.env := by rfl) (hpl : (backTo pos (starEach es X.env)).any (·.1) = false := by rfl) : PE X (.Call (.Name x p) (e :: es) [] pos) (tCall sp [] E0 t) := by
  obtain ⟨f, fd, hm, kp, hb, F⟩ := D.ex
  exact pe_call F hr hg hm kp hb .nil pass0 ha hdb he hpl
theorem pe_dn0 {X : Cx} {k : Nat} {x : Str} {ps : List Str} {sp : Sp} {p pos : Pos} (D : Dn X.prog X.w X.K X.mg X.base k x ps sp) (hr : Room k X.A) (hg : Gl X x) (hdb : (x == ("__debug__" : Str)) = false := by decide) : PE X (.Call (.Name x p) [] [] pos) (tCall sp [] E0 tNil) := by
  obtain ⟨f, fd, hm, kp, hb, F⟩ := D.ex
  exact pe_call0 F hr hg hm kp hb .nil pass0 hdb
/-- the built-ins that the module leaves as they are -/
structure Blt (mg : Str → Option Value) : Prop where
  len : mg "len" = none
  int : mg "int" = none
  str : mg "str" = none
  bool : mg "bool" = none
  isi : mg "isinstance" = none
  range : mg "range" = none
  tuple : mg "tuple" = none

section
variable {P : Program} {w : World} {K : PySem.W.Frag} {mg : Str → Option Value} {base : Heap}
theorem boot_int : bootBuiltins ("int" : Str) = some (.type "int") := by decide +kernel
/-! ### _law_draw -/
def spDraw : Sp := fun vs H Q _ => ∃ (d : Addr) (m p : Int), vs = [.ref d, .int m] ∧ 0 < m ∧ m < 1073741824 ∧ Tape H d p ∧ p < 1000000000 ∧
  ∀ (n p' : Int) (H' : Hp), 0 ≤ n → n < m → Tape H' d p' → p' ≤ p + 1 → Off H H' d → Q (.int n) H'
abbrev nD : List Str := ["_law_tape", "_law_many", "_law_place", "_law_size", "_law_cell", "_law_found"]
theorem scD : FnScope nD ["_law_tape", "_law_many"] (defScope sDraw) := ⟨rfl, rfl, rfl, by decide +kernel, rfl, by decide +kernel, by decide +kernel⟩
theorem dg_left {H : Hp} {d c : Addr} {p l : Int} (h : H d = some (.dK (tapeD c p l))) : DGet H d (.str "left") (some (.int l)) := .inl ⟨_, kLeft, .inl h, rfl, (tape_left c p l).symm⟩
theorem dg_place {H : Hp} {d c : Addr} {p l : Int} (h : H d = some (.dK (tapeD c p l))) : DGet H d (.str "place") (some (.int p)) := .inl ⟨_, kPlace, .inl h, rfl, (tape_place c p l).symm⟩
theorem dg_cells {H : Hp} {d c : Addr} {p l : Int} (h : H d = some (.dK (tapeD c p l))) : DGet H d (.str "cells") (some (.ref c)) := .inl ⟨_, kCells, .inl h, rfl, (tape_cells c p l).symm⟩
theorem dp_left {H : Hp} {d c : Addr} {p l q : Int} (h : H d = some (.dK (tapeD c p l))) : DPut H d (.str "left") (.int q) (L2.upd H d (.dK (tapeD c p q))) :=
  .inl ⟨_, kLeft, h, rfl, small1000 (show 3 ≤ 1000 by decide), by rw [tape_put_left]⟩
theorem dp_place {H : Hp} {d c : Addr} {p l q : Int} (h : H d = some (.dK (tapeD c p l))) : DPut H d (.str "place") (.int q) (L2.upd H d (.dK (tapeD c q l))) :=
  .inl ⟨_, kPlace, h, rfl, small1000 (show 3 ≤ 1000 by decide), by rw [tape_put_place]⟩
theorem Off.put {H H1 : Hp} {d c : Addr} {p l : Int} (a : Off H H1 d) (h : H1 d = some (.dK (tapeD c p l))) (p' l' : Int) : Off H (L2.upd H1 d (.dK (tapeD c p' l'))) d := a.trans ⟨fun b u e n => by rw [upd_ne n]; exact e, fun kvs e => by
  rw [h] at e
  have e3 : tapeD c p l = kvs := HO.dK.inj (Option.some.inj e)
  exact ⟨_, upd_same, by rw [← e3, tape_cells, tape_cells]⟩⟩
theorem two_line : (2 : Nat) ≤ sizeLine := by decide
theorem ok_draw {f : Addr} {fd : FuncData} (F : Fun K "_law_draw" "_law_draw" sDraw f fd) (B : Blt mg) : FnOk P w K mg base CX0 1 f fd ["_law_tape", "_law_many"] spDraw := by
  refine F.ok scD (fun vs H Q E h => ?_) (fun cdv A outer s H vs Q E hr h => ?_)
  · obtain ⟨d, m, p, rfl, _⟩ := h
    rfl
  · obtain ⟨d, m, p, rfl, m0, m1, T, p1, k⟩ := h
    have hu := hu_of hr
    obtain ⟨c, ns, l, hd, hc, hne, l0, p0⟩ := T
    have hcd : c ≠ d := (ne_of hd hc (by intro z; cases z)).symm
    obtain ⟨tB, hB, qB⟩ : ∃ tB, PSs (cxOf CX0 P w K mg base nD "_law_draw" (defScope sDraw) f cdv A outer s H E).nox ((defBody sDraw).drop 1) tB ∧ ∀ (v2 v3 v4 : Option V) (p' l' : Int) (H1 : Hp),
        H1 d = some (.dK (tapeD c p' l')) → 0 ≤ l' → 0 ≤ p' → p' ≤ p + 1 → Off H H1 d → tB { nx := fun _ H' => Q .non H', rt := Q } [some (.ref d), some (.int m), v2, v3, v4, none] H1 := by
      refine ⟨_, pss_cons (ps_asg (pe_tup (pa_cons (pe_op op_mod (pe_callTy call_int1 (by rfl) B.int boot_int (pa_cons (pe_dget hu (pv 0) pe_str (fun _ _ => rfl)) pa_nil)) (pv 1)) (pa_cons (pe_op op_fdiv (pe_dget hu (pv 0) pe_str (fun _ _ => rfl)) (pv 1)) pa_nil)))
            (pg_tup rfl (pgs_cons (pg_name (i := 5) scD.nd rfl (.inl rfl)) (pgs_cons (pg_sub (pv 0) pe_str (set_dict hu)) pgs_nil))))
        (pss_one (ps_ret (pv 5))), fun v2 v3 v4 p' l' H1 h1 l1 q0 q1 of => ?_⟩
      refine ⟨_, rfl, d, _, rfl, dg_left h1, .inl ⟨_, rfl, _, rfl, _, _, rfl, rfl, m0, _, rfl, d, _, rfl, dg_left h1, _, rfl, _, _, rfl, rfl, ⟨m0, m1⟩, two_line, fun t ht => ?_⟩⟩
      have htd : d ≠ t := ne_of_none h1 ht
      refine ⟨t, _, rfl, SqT.of upd_same, rfl, _, _, rfl, _, _, rfl, _, rfl, d, _, rfl, dp_left (by rw [upd_ne htd]; exact h1), rfl, _, rfl, ?_⟩
      have o2 : Off H (L2.upd (L2.upd H1 t (.tup [.int (l' % m), .int (l' / m)])) d (.dK (tapeD c p' (l' / m)))) d := (of.new ht _).put (by rw [upd_ne htd]; exact h1) _ _
      exact k _ p' _ (Int.emod_nonneg _ (by omega)) (Int.emod_lt_of_pos _ m0) ⟨c, ns, l' / m, upd_same, o2 _ _ hc hcd, hne, Int.ediv_nonneg l1 (by omega), q0⟩ q1 o2
    refine ⟨_, pss_cons (ps_if (pt_cmpR op_lt (pe_dget hu (pv 0) pe_str (fun _ _ => rfl)) (pv 1) (nomark _))
        (pss_cons (ps_par (i := 2) (j := 3) rfl scD.nd rfl rfl (by decide) rfl rfl (pa_cons (pe_dget hu (pv 0) pe_str (fun _ _ => rfl)) (pa_cons (pe_callB call_len_seq (by rfl) B.len PySem.boot_len (pa_cons (pe_dget hu (pv 0) pe_str (fun _ _ => rfl)) pa_nil)) pa_nil)) (by rfl))
        (pss_cons (ps_asg (pe_tup (pa_cons (pe_ix ix_list (pe_dget hu (pv 0) pe_str (fun _ _ => rfl)) (pe_op op_mod (pe_callTy call_int1 (by rfl) B.int boot_int (pa_cons (pv 2) pa_nil)) (pv 3)) (fun _ _ => rfl)) (pa_cons (pe_op op_add (pv 2) pe_int) pa_nil)))
            (pg_tup rfl (pgs_cons (pg_name (i := 4) scD.nd rfl (.inl rfl)) (pgs_cons (pg_sub (pv 0) pe_str (set_dict hu)) pgs_nil))))
        (pss_cons (ps_dput hu (pv 0) pe_str (pe_op op_mod (pe_callTy call_int1 (by rfl) B.int boot_int (pa_cons (pe_op op_pow (pe_op op_add (pe_op op_add (pe_op op_mod (pe_callTy call_int1 (by rfl) B.int boot_int (pa_cons (pv 4) pa_nil)) pe_int) (pe_op op_mul pe_int (pv 2))) pe_int) pe_int) pa_nil)) (pe_op op_add (pe_op op_pow pe_int pe_int) pe_int)) rfl)
        (pss_one (ps_if (pw_and (pt_cmpR op_ge (pv 4) (pe_op op_pow pe_int pe_int) (nomark _)) (pw_and1 (pt_cmpR op_lt (pv 2) (pv 3) (nomark _)))).pt
          (pss_one (ps_dput hu (pv 0) pe_str (pe_op op_sub (pv 4) (pe_op op_pow pe_int pe_int)) rfl)) pss_nil))))) pss_nil) hB, ?_⟩
    refine ⟨_, rfl, d, _, rfl, dg_left hd, _, rfl, _, _, rfl, rfl, _, rfl, ite2 (fun _ => ?_) (fun _ => qB _ _ _ p l H hd l0 p0 (by omega) (.refl _ _))⟩
    have hlen : 0 < ns.length := List.length_pos_iff.mpr hne
    have hml : (ns.map V.int).length = ns.length := List.length_map _
    obtain ⟨z, hz⟩ : ∃ z : Int, atI (ns.map V.int) (p % (ns.map V.int).length) = some (.int z) := by
      have h1 : 0 ≤ p % (ns.map V.int).length := Int.emod_nonneg _ (by omega)
      have h2 : p % (ns.map V.int).length < (ns.map V.int).length := Int.emod_lt_of_pos _ (by omega)
      have h3 : (p % (ns.map V.int).length).toNat < ns.length := by omega
      exact ⟨ns[(p % (ns.map V.int).length).toNat], at_of (j := (p % (ns.map V.int).length).toNat) (by omega) (by rw [List.getElem?_map, List.getElem?_eq_getElem h3]; rfl)⟩
    -- place, size; cell, tape['place']
    refine ⟨_, rfl, d, _, rfl, dg_place hd, _, rfl, d, _, rfl, dg_cells hd, c, _, rfl, .inl (SqL.of hc), _, _, rfl, ?_⟩
    refine ⟨_, rfl, d, _, rfl, dg_cells hd, _, rfl, .inl ⟨_, rfl, _, rfl, _, _, rfl, rfl, (by omega), c, _, _, _, rfl, rfl, SqL.of hc, hz, _, rfl, _, _, rfl, rfl, two_line, fun t ht => ?_⟩⟩
    have htd : d ≠ t := ne_of_none hd ht
    refine ⟨t, _, rfl, SqT.of upd_same, rfl, _, _, rfl, _, _, rfl, _, rfl, d, _, rfl, dp_place (by rw [upd_ne htd]; exact hd), rfl, ?_⟩
    -- tape['left']
    have e1 := Int.emod_nonneg z (show (2147483587 : Int) ≠ 0 by decide)
    have e2 := Int.emod_lt_of_pos z (show (0 : Int) < 2147483587 by decide)
    refine ⟨_, rfl, .inl ⟨_, rfl, _, _, rfl, rfl, (by show (0 : Int) < 2147483587; decide), _, rfl, _, _, rfl, rfl, .inl ⟨by decide, by decide⟩, _, _, rfl, rfl, _, _, rfl, rfl, _, _, rfl, rfl, ⟨by decide, by decide, by omega⟩, .inl ⟨_, rfl, _, _, rfl, rfl, ⟨by decide, by decide, by decide⟩, _, _, rfl, rfl, _, _, rfl, rfl, (by show (0 : Int) < 10 ^ (50 : Int).toNat + 207; decide), _, rfl, d, _, rfl, dp_left upd_same, ?_⟩⟩⟩
    rw [upd_upd]
    have l2 : ∀ x : Int, 0 ≤ x % (10 ^ (50 : Int).toNat + 207) := fun x => Int.emod_nonneg _ (by decide)
    have of : ∀ q, Off H (L2.upd (L2.upd H t (.tup [.int z, .int (p + 1)])) d (.dK (tapeD c (p + 1) q))) d := fun q => ((Off.refl H d).new ht _).put (by rw [upd_ne htd]; exact hd) _ _
    refine ⟨_, rfl, _, _, rfl, rfl, ⟨by decide, by decide, by decide⟩, _, _, rfl, rfl, _, rfl, ite2 (fun hz18 => ?_) (fun _ => ?_)⟩
    · refine ⟨_, rfl, _, rfl, _, _, rfl, rfl, _, rfl, ite2 (fun _ => ?_) (fun _ => ?_)⟩
      · have hz18 := of_decide_eq_true hz18
        refine ⟨_, rfl, _, _, rfl, rfl, ⟨by decide, by decide, by decide⟩, _, _, rfl, rfl, _, rfl, d, _, rfl, dp_left upd_same, ?_⟩
        rw [upd_upd]
        exact qB _ _ _ (p + 1) _ _ upd_same (by omega) (by omega) (by omega) (of _)
      · exact qB _ _ _ (p + 1) _ _ upd_same (l2 _) (by omega) (by omega) (of _)
    · exact qB _ _ _ (p + 1) _ _ upd_same (l2 _) (by omega) (by omega) (of _)
end
end Ask
namespace Ask
open PySem L2
section
variable {P : Program} {w : World} {K : PySem.W.Frag} {mg : Str → Option Value} {base : Heap}
/-! ### _law_begin -/
def spBegin (K : PySem.W.Frag) : Sp := fun vs H Q _ => ∃ (a : Addr) (ns : List Int), vs = [.ref a] ∧ SqL K H a (ns.map V.int) ∧ ∀ (d : Addr) (H' : Hp), H d = none → Tape H' d 0 → Same H H' → Q (.ref d) H'
abbrev nBg : List Str := ["_law_script"]
theorem scBg : FnScope nBg ["_law_script"] (defScope sBegin) := ⟨rfl, rfl, rfl, by decide +kernel, rfl, by decide +kernel, by decide +kernel⟩
theorem merge_tape (c : Addr) (p l : Int) : mergeK [] (tapeD c p l) = tapeD c p l := by
  have e1 : putK ([] : List (Key × V)) kCells (.ref c) = [(kCells, .ref c)] := putK_new _ rfl
  have e2 : putK [(kCells, V.ref c)] kPlace (.int p) = [(kCells, .ref c), (kPlace, .int p)] := putK_new _ (by rw [valV_neg ne_cp, valV_nil])
  have e3 : putK [(kCells, V.ref c), (kPlace, V.int p)] kLeft (.int l) = tapeD c p l := putK_new _ (by rw [valV_neg ne_cl, valV_neg ne_pl, valV_nil])
  show putK (putK (putK ([] : List (Key × V)) kCells (.ref c)) kPlace (.int p)) kLeft (.int l) = _
  rw [e1, e2, e3]
theorem cut_ints (ns : List Int) (lo hi : Option Int) : ∃ ms : List Int, cutV (ns.map V.int) lo hi = ms.map V.int := by
  unfold cutV
  exact ⟨(ns.drop _).take _, by rw [List.map_take, List.map_drop]⟩
theorem ok_begin {f : Addr} {fd : FuncData} (F : Fun K "_law_begin" "_law_begin" sBegin f fd) : FnOk P w K mg base CX0 1 f fd ["_law_script"] (spBegin K) := by
  refine F.ok scBg (fun vs H Q E h => ?_) (fun cdv A outer s H vs Q E hr h => ?_)
  · obtain ⟨a, ns, rfl, _⟩ := h
    rfl
  · obtain ⟨a, ns, rfl, hs, k⟩ := h
    refine ⟨_, pss_one (ps_ret (pe_disp (pps_cons pe_str (pe_orT (pe_slice sl_list (pv 0) po_none (po_some pe_int)) (pe_one (pe_lst (pa_cons pe_int pa_nil)))) (pps_cons pe_str pe_int (pps_cons pe_str pe_int pps_nil))) rfl rfl (by intro z; cases z) (by decide))), ?_⟩
    intro d hd
    have s1 : Same H (L2.upd H d (.dK [])) := fun b o e => by rw [upd_ne (ne_of_none e hd)]; exact e
    refine ⟨_, rfl, _, rfl, a, _, rfl, s1.seq hs, fun c hc => ?_⟩
    obtain ⟨ms, em⟩ := cut_ints ns none (some 63)
    have ncd : d ≠ c := ne_of_none upd_same hc
    have s2 : ∀ o, Same H (L2.upd (L2.upd H d (.dK [])) c o) := fun o b u e => by rw [upd_ne (ne_of_none (s1 _ _ e) hc)]; exact s1 _ _ e
    have fin : ∀ (c : Addr) (ms : List Int) (H1 : Hp), ms ≠ [] → Same H H1 → H1 d = some (.dK []) → H1 c = some (.lst (ms.map V.int)) → c ≠ d → Q (.ref d) (L2.upd H1 d (.dK (mergeK [] (tapeD c 0 0)))) := fun c ms H1 hm hs1 h1 h2 hn => by
      rw [merge_tape]
      refine k d _ hd ⟨c, ms, 0, upd_same, by rw [upd_ne hn]; exact h2, hm, by omega, by omega⟩ fun b u e => ?_
      rw [upd_ne (ne_of_none e hd)]
      exact hs1 _ _ e
    rw [em]
    refine ⟨!(ms.map V.int).isEmpty, .inl ⟨_, SqL.of upd_same, rfl⟩, ?_⟩
    cases ms with
    | nil =>
      refine iteF ⟨by show 1 ≤ sizeLine; decide, fun c2 hc2 => ?_⟩
      have n2 : d ≠ c2 := ne_of_none (by rw [upd_ne ncd]; exact upd_same) hc2
      refine ⟨by rw [upd_ne n2, upd_ne ncd]; exact upd_same, tapeD c2 0 0, rfl, by show 3 ≤ 15; decide, ?_⟩
      exact fin c2 [0] _ (by intro z; cases z) (fun b u e => by rw [upd_ne (ne_of_none (s2 _ _ _ e) hc2)]; exact s2 _ _ _ e) (by rw [upd_ne n2, upd_ne ncd]; exact upd_same) upd_same n2.symm
    | cons m ms =>
      refine iteT ?_
      refine ⟨by rw [upd_ne ncd]; exact upd_same, tapeD c 0 0, rfl, by show 3 ≤ 15; decide, ?_⟩
      exact fin c (m :: ms) _ (by intro z; cases z) (s2 _) (by rw [upd_ne ncd]; exact upd_same) upd_same ncd.symm
/-! ### _law_pick -/
/-- v is a list, a tuple or a text with the items xs -/
def Seq3 (K : PySem.W.Frag) (H : Hp) (v : V) (xs : List V) : Prop :=
  (∃ a, v = .ref a ∧ SqL K H a xs) ∨ (∃ a, v = .ref a ∧ SqT K H a xs) ∨ ∃ z : Str, v = .str z ∧ z.length ≤ sizeLine ∧ xs = z.cps.toList.map fun c => V.str ⟨#[c]⟩
theorem Off.seqL {H H' : Hp} {d a : Addr} {kvs : List (Key × V)} {xs : List V} (o : Off H H' d) (hd : H d = some (.dK kvs)) (h : SqL K H a xs) : SqL K H' a xs := by
  rcases h with (h | ⟨u, h⟩) | h
  · exact .inl (.inl (o _ _ h (ne_of h hd (by intro z; cases z))))
  · exact .inl (.inr ⟨u, o _ _ h (ne_of h hd (by intro z; cases z))⟩)
  · exact .inr h
theorem Off.seqT {H H' : Hp} {d a : Addr} {kvs : List (Key × V)} {xs : List V} (o : Off H H' d) (hd : H d = some (.dK kvs)) (h : SqT K H a xs) : SqT K H' a xs := by
  rcases h with (h | ⟨u, h⟩) | h
  · exact .inl (.inl (o _ _ h (ne_of h hd (by intro z; cases z))))
  · exact .inl (.inr ⟨u, o _ _ h (ne_of h hd (by intro z; cases z))⟩)
  · exact .inr h
theorem Seq3.off {H H' : Hp} {d : Addr} {kvs : List (Key × V)} {v : V} {xs : List V} (h : Seq3 K H v xs) (o : Off H H' d) (hd : H d = some (.dK kvs)) : Seq3 K H' v xs := by
  rcases h with ⟨a, e, h⟩ | ⟨a, e, h⟩ | h
  · exact .inl ⟨a, e, o.seqL hd h⟩
  · exact .inr (.inl ⟨a, e, o.seqT hd h⟩)
  · exact .inr (.inr h)
theorem Seq3.len {H : Hp} {v : V} {xs : List V} (h : Seq3 K H v xs) : LenV K v H xs.length := by
  rcases h with ⟨a, rfl, h⟩ | ⟨a, rfl, h⟩ | ⟨z, rfl, hz, rfl⟩
  · exact .inl ⟨xs, h, rfl⟩
  · exact .inr ⟨xs, h, rfl⟩
  · exact ⟨hz, by rw [List.length_map]; rfl⟩
theorem atI_map {α β : Type} (g : α → β) (l : List α) (i : Int) : atI (l.map g) i = (atI l i).map g := by
  unfold atI
  rw [List.length_map]
  cases ixN l.length i with
  | none => rfl
  | some j => simp
theorem Seq3.ix {H : Hp} {v y : V} {xs : List V} {i : Int} {Q : VK} (h : Seq3 K H v xs) (e : atI xs i = some y) (q : Q y H) : rIx K v (.int i) H Q := by
  rcases h with ⟨a, rfl, h⟩ | ⟨a, rfl, h⟩ | ⟨z, rfl, hz, rfl⟩
  · exact .inl ⟨a, xs, i, y, rfl, rfl, h, e, q⟩
  · exact .inr (.inl ⟨a, xs, i, y, rfl, rfl, h, e, q⟩)
  · rw [atI_map] at e
    obtain ⟨c, e1, rfl⟩ := Option.map_eq_some_iff.mp e
    exact .inr (.inr ⟨z, i, c, rfl, rfl, hz, e1, q⟩)
def spPick (K : PySem.W.Frag) : Sp := fun vs H Q _ => ∃ (d : Addr) (v : V) (xs : List V) (p : Int), vs = [.ref d, v] ∧ Tape H d p ∧ p < 1000000000 ∧ Seq3 K H v xs ∧ xs ≠ [] ∧ xs.length < 1073741824 ∧
  ∀ (x : V) (p' : Int) (H' : Hp), x ∈ xs → Tape H' d p' → p' ≤ p + 1 → Off H H' d → Q x H'
abbrev nPk : List Str := ["_law_tape", "_law_items"]
theorem scPk : FnScope nPk ["_law_tape", "_law_items"] (defScope sPick) := ⟨rfl, rfl, rfl, by decide +kernel, rfl, by decide +kernel, by decide +kernel⟩
theorem ok_pick {f : Addr} {fd : FuncData} (F : Fun K "_law_pick" "_law_pick" sPick f fd) (B : Blt mg) (DD : Dn P w K mg base 1 "_law_draw" ["_law_tape", "_law_many"] spDraw) : FnOk P w K mg base CX0 2 f fd ["_law_tape", "_law_items"] (spPick K) := by
  refine F.ok scPk (fun vs H Q E h => ?_) (fun cdv A outer s H vs Q E hr h => ?_)
  · obtain ⟨d, v, xs, p, rfl, _⟩ := h
    rfl
  · obtain ⟨d, v, xs, p, rfl, T, p1, S, hne, hl, k⟩ := h
    have hlen : 0 < xs.length := List.length_pos_iff.mpr hne
    refine ⟨_, pss_one (ps_ret (pe_ix ix_seq (pv 1) (pe_dn DD hr (by rfl) (pa_cons (pv 0) (pa_cons (pe_callB call_len (by rfl) B.len PySem.boot_len (pa_cons (pv 1) pa_nil)) pa_nil))) (fun _ _ => rfl))), ?_⟩
    refine ⟨_, rfl, _, rfl, _, rfl, _, _, rfl, S.len, d, _, p, rfl, by omega, by omega, T, p1, fun n p' H' n0 n1 T' hp o => ?_⟩
    obtain ⟨kvs, hd⟩ := T.at
    have h3 : n.toNat < xs.length := by omega
    exact (S.off o hd).ix (at_of (j := n.toNat) (by omega) (List.getElem?_eq_getElem h3)) (k _ p' H' (List.getElem_mem h3) T' hp o)
end
end Ask
namespace Ask
open PySem L2 PySem.Spec PyProof.Rows
/-! ### a text, once or twice -/
def twice (z : Str) : Str := ⟨z.cps ++ z.cps⟩
def rMulS : R2 := fun x y H Q => ∃ z : Str, x = .str z ∧ z.length ≤ 10 ∧ ((y = .int 1 ∧ Q (.str z) H) ∨ (y = .int 2 ∧ z.length ≠ 0 ∧ Q (.str (twice z)) H))
theorem op_mulS {X : Cx} : OpR X (binaryOp .Mult) rMulS := by
  intro pins s σ H x y v u Q I rx ry h
  obtain ⟨z, rfl, hz, ⟨rfl, q⟩ | ⟨rfl, h0, q⟩⟩ := h
  · obtain ⟨t, rfl⟩ := rx
    obtain ⟨t', rfl⟩ := ry
    refine PySem.P.mul_str (by decide) (fun _ e => by cases e) (fun _ e => by cases e) ?_
    rw [if_neg (by decide), if_pos (by rfl)]
    exact ⟨.str z, H, I, ⟨_, rfl⟩, q⟩
  · obtain ⟨t, rfl⟩ := rx
    obtain ⟨t', rfl⟩ := ry
    have e0 : ((2 : Int) == 1 || z.length == 0) = false := by
      rw [show ((2 : Int) == 1) = false from rfl, Bool.false_or]
      exact beq_eq_false_iff_ne.mpr h0
    refine PySem.P.mul_str (by decide) (fun _ _ => by omega) (fun _ _ => ?_) ?_
    · refine decide_eq_false ?_
      show ¬ z.length * 2 > sizeLine
      rw [sizeLine_eq]
      omega
    · rw [if_neg (by decide), e0, if_neg Bool.false_ne_true]
      refine ⟨?_, .str (twice z), H, I.tok _, ⟨s.toks, ?_⟩, q⟩
      · show (⟨(List.replicate 2 z.cps).foldl (· ++ ·) #[]⟩ : Str).length ≤ _
        have : (⟨(List.replicate 2 z.cps).foldl (· ++ ·) #[]⟩ : Str).length = z.length + z.length := by
          show ((List.replicate 2 z.cps).foldl (· ++ ·) #[]).size = z.cps.size + z.cps.size
          simp [List.replicate]
        rw [this, sizeLine_eq]
        omega
      · have : (List.replicate (Int.toNat 2) z.cps).foldl (· ++ ·) #[] = z.cps ++ z.cps := by
          show (List.replicate 2 z.cps).foldl (· ++ ·) #[] = _
          simp [List.replicate]
        unfold twice
        rw [this]
end Ask
namespace Ask
open PySem L2 PySem.Spec PyProof.Rows
/-! ### {None: a, True: b, False: c}[x] -/
def LfO (P : Program) (w : World) (p : Addr) (a b c : Str) : HO := .ext fun h => ∃ t1 t2 t3, h.DictOf (leafKind P w) p [(.none, .str a t1), (.num 1, .str b t2), (.num 0, .str c t3)]
def tLf (P : Program) (w : World) (a b c : Str) (trs : List (TE × TE)) (ty : TE) : TE := fun σ H Q => ∀ p, H p = none → tPairs trs σ (L2.upd H p (.dK [])) fun ps H2 =>
  ps = [(.non, .str a), (.bl true, .str b), (.bl false, .str c)] ∧ H2 p = some (.dK []) ∧ ty σ (L2.upd H2 p (LfO P w p a b c)) fun y H3 => H3 p = some (LfO P w p a b c) ∧
    ((y = .non ∧ Q (.str a) H3) ∨ ∃ q : Bool, y = .bl q ∧ Q (.str (if q = true then b else c)) H3)
theorem pe_lfAsk {X : Cx} {pos pos' : Pos} {keys : List (Option Expr)} {values : List Expr} {trs : List (TE × TE)} {i : Expr} {ty : TE} {a b c : Str} (h : PPs X pos' keys values trs) (hall : keys.all (·.isSome) = true) (hl : keys.length = values.length) (h0 : keys ≠ [])
    (h15 : keys.length ≤ 15) (hi : PE X i ty) (hs : NoSl i) : PE X (.Subscript (.Dict keys values pos') i pos) (tLf X.prog X.w a b c trs ty) := by
  refine ⟨fun pins s σ H Q I q => ?_⟩
  have hn := I.hok.fresh (Nat.le_refl s.heap.objs.size)
  have I1 := I.laid (a := s.heap.objs.size) (o := .dK []) (h' := s.heap.push { cls := .type "dict", data := .dict #[] }) (t' := s.toks) (fun _ _ q => Heap.get?_push_of_some _ q) (Nat.le_refl _) (dk_empty s.heap I.big)
  have q1 := q _ hn
  have w1 := h.run pins _ σ _ _ I1 q1
  refine subD_of PySem.F.slot_dict_getitem.lookup hs ?_
  refine wpAny_Dict_walk (knd := leafKind X.prog X.w) hall hl h0 h15 ?_
  refine thn w1 ?_
  rintro ws s2 ⟨ps, H2, I2, rel, e0, e, q2⟩
  subst e0
  obtain ⟨z, hd, vs0, r0, dd⟩ := dk_of I2.hok e
  cases r0
  match ws, rel with
  | [(u1, w1), (u2, w2), (u3, w3)], .cons ⟨r1, ⟨t1, v1⟩⟩ (.cons ⟨r2, ⟨t2, v2⟩⟩ (.cons ⟨r3, ⟨t3, v3⟩⟩ .nil)) =>
  have e1 : u1 = Value.none := r1
  have e2 : u2 = Value.bool true := r2
  have e3 : u3 = Value.bool false := r3
  have v1 : w1 = Value.str a t1 := v1
  have v2 : w2 = Value.str b t2 := v2
  have v3 : w3 = Value.str c t3 := v3
  subst e1 e2 e3 v1 v2 v3
  have dd0 : s2.heap.DictOf (leafKind X.prog X.w) s.heap.objs.size [] := by
    obtain ⟨o, es, ep, g, x, dt, _, pr, nd⟩ := dd
    have e4 : es.toList = [] := by
      cases hh : es.toList with
      | nil => rfl
      | cons y r => rw [hh] at pr; cases pr
    have e5 : es = #[] := by
      cases es
      exact congrArg Array.mk e4
    subst e5
    exact ⟨o, #[], ep, g, x, dt, fun y hy => by simp at hy, .nil, List.nodup_nil⟩
  refine ⟨[(.none, .str a t1), (.num 1, .str b t2), (.num 0, .str c t3)], ⟨rfl, rfl, rfl, rfl, rfl, rfl, trivial⟩, dd0, fun h' dd' hs' => ?_⟩
  have he : ∃ q, h'.get? s.heap.objs.size = some q := let ⟨q, _, _, hq, _⟩ := dd'; ⟨q, hq⟩
  have em : merged [] [(Leaf.none, Value.str a t1), (.num 1, .str b t2), (.num 0, .str c t3)] = [(.none, .str a t1), (.num 1, .str b t2), (.num 0, .str c t3)] := rfl
  rw [em] at dd'
  have I3 := fun tk => d_write (t' := tk) (ob := LfO X.prog X.w s.heap.objs.size a b c) I2 (by rw [e]; exact True.intro) hs' he ⟨⟨t1, t2, t3, dd'⟩, he, fun h1 h2 ⟨x1, x2, x3, y⟩ k => ⟨x1, x2, x3, y.at k⟩⟩
  refine thn (hi.run pins _ σ _ _ (I3 _) q2) ?_
  rintro iv s3 ⟨y, H4, I4, ry, eL, q4⟩
  obtain ⟨⟨x1, x2, x3, dd4⟩, _, _⟩ := I4.hok _ _ eL
  refine ⟨dd4.typeIs, ?_⟩
  rcases q4 with ⟨rfl, q4⟩ | ⟨k, rfl, q4⟩
  · have e6 : iv = Value.none := ry
    subst e6
    exact wpAny_getItem_of (knd := leafKind X.prog X.w) (k := .none) leaf_none dd4.mapOf (v := .str a x1) rfl ⟨.str a, H4, I4.tok _, ⟨x1, rfl⟩, q4⟩
  · have e6 : iv = Value.bool k := ry
    subst e6
    cases k with
    | true => exact wpAny_getItem_of (knd := leafKind X.prog X.w) (k := .num 1) leaf_true dd4.mapOf (v := .str b x2) rfl ⟨.str b, H4, I4.tok _, ⟨x2, rfl⟩, q4⟩
    | false => exact wpAny_getItem_of (knd := leafKind X.prog X.w) (k := .num 0) leaf_false dd4.mapOf (v := .str c x3) rfl ⟨.str c, H4, I4.tok _, ⟨x3, rfl⟩, q4⟩
end Ask
namespace Ask
open PySem L2
/-! ### trees and their texts -/
def qt : Str := "'"
def qq : Str := "''"
def dch (c : Nat) : Str := if (⟨#[c]⟩ : Str) = qt then qq else ⟨#[c]⟩
def dbl (z : Str) : Str := Txt.join "" (z.cps.toList.map dch)
mutual
def txt : PyData → Str
  | .none => "null"
  | .bool b => if b = true then ("true" : Str) else ("false" : Str)
  | .int i => toString i
  | .str z => qt ++ dbl z ++ qt
  | .tuple xs => ("(" : Str) ++ Txt.join " " (txtAll xs) ++ (")" : Str)
  | .list _ => ""
  | .dict _ => ""
def txtAll : List PyData → List Str
  | [] => []
  | x :: xs => txt x :: txtAll xs
end
theorem txtAll_map : ∀ xs : List PyData, txtAll xs = xs.map txt
  | [] => rfl
  | x :: xs => by rw [txtAll, List.map_cons, txtAll_map xs]
/-- how deep a tree goes: 1 for leaves -/
def dep : PyData → Nat
  | .tuple xs => depAll xs + 1
  | _ => 1
where depAll : List PyData → Nat
  | [] => 1
  | x :: xs => max (dep x) (depAll xs)
/-- a bound on its text -/
def wt : PyData → Nat
  | .tuple xs => wtAll xs + 3
  | .str z => 2 * z.length + 3
  | .int i => i.natAbs.log2 + 3
  | _ => 6
where wtAll : List PyData → Nat
  | [] => 0
  | x :: xs => wt x + 1 + wtAll xs
mutual
/-- such a tree stands at v -/
inductive Tr (H : Hp) : V → PyData → Prop
  | non : Tr H .non .none
  | bl (b : Bool) : Tr H (.bl b) (.bool b)
  | int (i : Int) (h : i.natAbs.log2 < 1900) : Tr H (.int i) (.int i)
  | str (z : Str) (h : z.length ≤ 100) : Tr H (.str z) (.str z)
  | tup {a : Addr} {xs : List V} {ds : List PyData} (h : H a = some (.tup xs)) (r : TrAll H xs ds) (hl : xs.length ≤ 100) : Tr H (.ref a) (.tuple ds)
inductive TrAll (H : Hp) : List V → List PyData → Prop
  | nil : TrAll H [] []
  | cons {v d vs ds} (h : Tr H v d) (r : TrAll H vs ds) : TrAll H (v :: vs) (d :: ds)
end
/-- all tuples stay -/
def Tups (H H' : Hp) : Prop := ∀ p u, H p = some (.tup u) → H' p = some (.tup u)
theorem Tups.of_same {H H' : Hp} (s : Same H H') : Tups H H' := fun p u e => s p _ e
theorem Tups.trans {H H1 H2 : Hp} (a : Tups H H1) (b : Tups H1 H2) : Tups H H2 := fun p u e => b p u (a p u e)
theorem Tups.off {H H' : Hp} {d : Addr} {kvs : List (Key × V)} (o : Off H H' d) (hd : H d = some (.dK kvs)) : Tups H H' := fun p u e => o p _ e fun q => by
  rw [q, hd] at e
  cases e
theorem Tups.lst {H : Hp} {D : Addr} {ks : List V} (h : H D = some (.lst ks)) (u : HO) : Tups H (L2.upd H D u) := fun p v e => by
  rw [upd_ne (fun q => by rw [q, h] at e; cases e)]
  exact e
mutual
theorem Tr.keep {H H' : Hp} (t : Tups H H') : ∀ {v : V} {d : PyData}, Tr H v d → Tr H' v d
  | _, _, .non => .non
  | _, _, .bl b => .bl b
  | _, _, .int i h => .int i h
  | _, _, .str z h => .str z h
  | _, _, .tup h r hl => .tup (t _ _ h) (TrAll.keep t r) hl
theorem TrAll.keep {H H' : Hp} (t : Tups H H') : ∀ {vs : List V} {ds : List PyData}, TrAll H vs ds → TrAll H' vs ds
  | _, _, .nil => .nil
  | _, _, .cons h r => .cons (Tr.keep t h) (TrAll.keep t r)
end
theorem TrAll.len {H : Hp} : ∀ {vs : List V} {ds : List PyData}, TrAll H vs ds → vs.length = ds.length
  | _, _, .nil => rfl
  | _, _, .cons _ r => by rw [List.length_cons, List.length_cons, TrAll.len r]
theorem TrAll.at {H : Hp} : ∀ {vs : List V} {ds : List PyData} {i : Nat} {v : V}, TrAll H vs ds → vs[i]? = some v → ∃ d, ds[i]? = some d ∧ Tr H v d
  | _, _, 0, v, .cons h _, e => by
    cases e
    exact ⟨_, rfl, h⟩
  | _, _, i + 1, v, .cons _ r, e => TrAll.at (i := i) r (by simpa using e)
theorem TrAll.snoc {H : Hp} {v : V} {d : PyData} (h : Tr H v d) : ∀ {vs : List V} {ds : List PyData}, TrAll H vs ds → TrAll H (vs ++ [v]) (ds ++ [d])
  | _, _, .nil => .cons h .nil
  | _, _, .cons a r => .cons a (TrAll.snoc h r)
theorem dep_mem : ∀ {xs : List PyData} {d : PyData}, d ∈ xs → dep d ≤ dep.depAll xs
  | x :: xs, d, h => by
    rw [dep.depAll]
    rcases List.mem_cons.mp h with rfl | h
    · exact Nat.le_max_left _ _
    · exact Nat.le_trans (dep_mem h) (Nat.le_max_right _ _)
theorem wt_mem : ∀ {xs : List PyData} {d : PyData}, d ∈ xs → wt d ≤ wt.wtAll xs
  | x :: xs, d, h => by
    rw [wt.wtAll]
    rcases List.mem_cons.mp h with rfl | h
    · omega
    · have := wt_mem h
      omega
theorem len_append (x y : Str) : (x ++ y).length = x.length + y.length := strLen_append x y
theorem dch_len (c : Nat) : (dch c).length ≤ 2 := by
  unfold dch
  split
  · decide
  · show 1 ≤ 2
    decide
theorem sum_dch : ∀ cs : List Nat, ((cs.map dch).map (·.length)).sum ≤ 2 * cs.length
  | [] => by simp
  | c :: cs => by
    have := sum_dch cs
    have := dch_len c
    simp only [List.map_cons, List.sum_cons, List.length_cons]
    omega
theorem join_le (a : Str) (ys : List Str) : (Txt.join a ys).length ≤ (ys.map (·.length)).sum + ys.length * a.length := by
  rw [show Txt.join a ys = Str.join a ys from StrLaws.glued_eq_join a ys]
  exact StrLaws.join_length_le a ys
theorem dbl_len (z : Str) : (dbl z).length ≤ 2 * z.length := by
  have h := join_le "" (z.cps.toList.map dch)
  have h2 := sum_dch z.cps.toList
  have e : z.cps.toList.length = z.length := Array.length_toList
  have e3 : (("" : Str)).length = 0 := rfl
  rw [e3, Nat.mul_zero] at h
  rw [e] at h2
  unfold dbl
  omega
mutual
theorem txt_le {H : Hp} : ∀ {v : V} {d : PyData}, Tr H v d → (txt d).length ≤ wt d
  | _, _, .non => by decide
  | _, _, .bl b => by cases b <;> decide
  | _, _, .int i h => by
    show (Str.ofString (toString i)).length ≤ i.natAbs.log2 + 3
    rw [PySem.ofString_length]
    have := int_text_length_le (a := i) (k := i.natAbs.log2 + 1) (by omega) (by omega)
    omega
  | _, _, .str z h => by
    show ((qt ++ dbl z) ++ qt).length ≤ 2 * z.length + 3
    rw [len_append, len_append]
    have := dbl_len z
    have e : qt.length = 1 := rfl
    omega
  | _, _, .tup (ds := ds) h r hl => by
    have := txtAll_le r
    rw [txt, wt, len_append, len_append]
    have j := join_le " " (txtAll ds)
    have e1 : (("(" : Str)).length = 1 := rfl
    have e2 : ((")" : Str)).length = 1 := rfl
    have e3 : ((" " : Str)).length = 1 := rfl
    rw [e3, Nat.mul_one] at j
    omega
theorem txtAll_le {H : Hp} : ∀ {vs : List V} {ds : List PyData}, TrAll H vs ds → ((txtAll ds).map (·.length)).sum + (txtAll ds).length ≤ wt.wtAll ds
  | _, _, .nil => by decide
  | _, _, .cons h r => by
    have a := txt_le h
    have b := txtAll_le r
    rw [txtAll, wt.wtAll]
    simp only [List.map_cons, List.sum_cons, List.length_cons]
    omega
end
end Ask
namespace Ask
open PySem L2
theorem boot_bool : bootBuiltins ("bool" : Str) = some (.type "bool") := by decide +kernel
theorem boot_str : bootBuiltins ("str" : Str) = some (.type "str") := by decide +kernel
theorem boot_isi : bootBuiltins ("isinstance" : Str) = some (.builtin "isinstance") := by decide +kernel
theorem same_new {H : Hp} {p : Addr} (hp : H p = none) (o : HO) : Same H (L2.upd H p o) := fun b u e => by rw [upd_ne (ne_of_none e hp)]; exact e
theorem same_fresh {H0 H H1 : Hp} {D : Addr} (a : Same H0 H) (hD : H0 D = none) (s : Same H H1) (u : HO) : Same H0 (L2.upd H1 D u) := fun b v e => by
  rw [upd_ne (ne_of_none e hD)]
  exact s b v (a b v e)
theorem tYes_go {σ : St} {H : Hp} {A B : Hp → Prop} (h : A H) : tYes σ H (fun b H3 => if b = true then A H3 else B H3) := by
  unfold tYes
  exact iteT h
theorem line1000 {n : Nat} (h : n ≤ 1000) : n ≤ sizeLine := Nat.le_of_lt (small1000 h)
theorem line1m {n : Nat} (h : n ≤ 1000000) : n ≤ sizeLine := by rw [sizeLine_eq]; omega
/-- the types that a tree's value may have, against three classes -/
structure Kit (K : PySem.W.Frag) (H : Hp) (v : V) (isB isN isT : Bool) : Prop where
  ex : ∃ t : String, TyX K H v (.type t) ∧ kitB t "bool" = some isB ∧ kitB t "int" = some isN ∧ kitB t "str" = some isT
section
variable {P : Program} {w : World} {K : PySem.W.Frag} {mg : Str → Option Value} {base : Heap}
theorem kit_non {H : Hp} : Kit K H .non false false false := ⟨_, .base .non, by decide +kernel, by decide +kernel, by decide +kernel⟩
theorem kit_bl {H : Hp} (b : Bool) : Kit K H (.bl b) true true false := ⟨_, .base (.bl b), by decide +kernel, by decide +kernel, by decide +kernel⟩
theorem kit_int {H : Hp} (i : Int) : Kit K H (.int i) false true false := ⟨_, .base (.int i), by decide +kernel, by decide +kernel, by decide +kernel⟩
theorem kit_str {H : Hp} (z : Str) : Kit K H (.str z) false false true := ⟨_, .base (.str z), by decide +kernel, by decide +kernel, by decide +kernel⟩
theorem kit_tup {H : Hp} {a : Addr} {xs : List V} (h : H a = some (.tup xs)) : Kit K H (.ref a) false false false := ⟨_, .base (.tup h), by decide +kernel, by decide +kernel, by decide +kernel⟩
/-! ### _law_tree -/
def spTree (n : Nat) : Sp := fun vs H Q _ => ∃ (v : V) (d : PyData), vs = [v] ∧ Tr H v d ∧ dep d < n + 1 ∧ wt d ≤ 1000000 ∧ ∀ H', Same H H' → Q (.str (txt d)) H'
theorem join_fits {H : Hp} {vs : List V} {ds : List PyData} (r : TrAll H vs ds) (h : wt.wtAll ds ≤ 1000000) : ((txtAll ds).map (·.length)).sum + (txtAll ds).length * (" " : Str).length ≤ 16777216 := by
  have := txtAll_le r
  rw [show ((" " : Str)).length = 1 from rfl, Nat.mul_one]
  omega
theorem dch_is (c : Nat) : (if decide (V.str (⟨#[c]⟩ : Str) = V.str "'") = true then V.str (twice (⟨#[c]⟩ : Str)) else V.str (⟨#[c]⟩ : Str)) = .str (dch c) := by
  unfold dch
  by_cases h : (⟨#[c]⟩ : Str) = qt
  · rw [if_pos h, decide_eq_true (by rw [h]; rfl), if_pos rfl, h]
    rfl
  · rw [if_neg h, decide_eq_false (fun e => h (by injection e)), if_neg Bool.false_ne_true]
theorem strs_take (f : Nat → Str) (cs : List Nat) {i c : Nat} (h : cs[i]? = some c) : ((cs.take (i + 1)).map f).map V.str = ((cs.take i).map f).map V.str ++ [.str (f c)] := by
  rw [List.take_add_one, h]
  simp
abbrev n_law_tree : List Str := ["_law_tree_here", "_law_sign", "_law_part"]
theorem sc_law_tree : FnScope n_law_tree ["_law_tree_here"] (defScope sTree) := ⟨rfl, rfl, rfl, by decide +kernel, rfl, by decide +kernel, by decide +kernel⟩
theorem ok_law_tree {f : Addr} {fd : FuncData} (F : Fun K "_law_tree" "_law_tree" sTree f fd) (B : Blt mg) {n : Nat} (DT : Dn P w K mg base n "_law_tree" ["_law_tree_here"] (spTree n)) : FnOk P w K mg base CX0 (n + 1) f fd ["_law_tree_here"] (spTree (n + 1)) := by
  refine F.ok sc_law_tree (fun vs H Q E h => ?_) (fun cdv A outer s H vs Q E hr h => ?_)
  · obtain ⟨v, d, rfl, _⟩ := h
    rfl
  · obtain ⟨v, d, rfl, tr, hd, hw, k⟩ := h
    refine ⟨_, (pss_cons (ps_if (pw_or (pt_cmpR op_isN (pv 0) pe_non (nomark _)) (pw_or1 (pt_val (pe_callB call_isi (by rfl) B.isi boot_isi (pa_cons (pv 0) (pa_cons (pe_bltn (v := .ty "bool") (by rfl) B.bool boot_bool rfl) pa_nil)))))).pt (pss_one (ps_ret (pe_lfAsk (a := "null") (b := "true") (c := "false") (pps_cons pe_non pe_str (pps_cons pe_bl pe_str (pps_cons pe_bl pe_str pps_nil))) rfl rfl (by intro z; cases z) (by decide) (pv 0) (fun _ _ => rfl)))) pss_nil)
      (pss_cons (ps_if (pt_val (pe_callB call_isi (by rfl) B.isi boot_isi (pa_cons (pv 0) (pa_cons (pe_bltn (v := .ty "int") (by rfl) B.int boot_int rfl) pa_nil)))) (pss_one (ps_ret (pe_callTy call_str_int (by rfl) B.str boot_str (pa_cons (pv 0) pa_nil)))) pss_nil)
      (pss_cons (ps_if (pt_val (pe_callB call_isi (by rfl) B.isi boot_isi (pa_cons (pv 0) (pa_cons (pe_bltn (v := .ty "str") (by rfl) B.str boot_str rfl) pa_nil)))) (pss_one (ps_ret (pe_op op_add_str (pe_op op_add_str pe_str (pe_join pe_str (pe_lc (own := [("_law_sign", 1)]) (g := gName 1) (tt := tYes) rfl sc_law_tree.nd (pi_str (pv 0)) (blkOk_by (own := [("_law_sign", 1)]) (N := n_law_tree) (sc := (defScope sTree)) (by decide +kernel)) (fun _ _ _ _ _ => pg_name (i := 1) sc_law_tree.nd rfl (Or.inl rfl)) (fun _ _ _ _ _ => pts_nil) (fun _ _ _ _ _ => (pe_op op_mulS (pv 1) (pe_op op_add pe_int (pe_callTy call_int1 (by rfl) B.int boot_int (pa_cons (pe_cmpR op_eq (pv 1) pe_str (nomark _)) pa_nil)))))))) pe_str))) pss_nil)
      (pss_one (ps_ret (pe_op op_add_str (pe_op op_add_str pe_str (pe_join pe_str (pe_lc (own := [("_law_part", 2)]) (g := gName 2) (tt := tYes) rfl sc_law_tree.nd (pi_tup (pv 0)) (blkOk_by (own := [("_law_part", 2)]) (N := n_law_tree) (sc := (defScope sTree)) (by decide +kernel)) (fun _ _ _ _ _ => pg_name (i := 2) sc_law_tree.nd rfl (Or.inl rfl)) (fun _ _ _ _ _ => pts_nil) (fun _ _ _ _ _ => (pe_dn DT hr (by rfl) (pa_cons (pv 2) pa_nil)))))) pe_str)))))), ?_⟩
    have lf : ∀ (v : V) (a : Str), (∀ H', Same H H' → Q (.str a) H') → ((v = .non ∧ a = "null") ∨ ∃ q : Bool, v = .bl q ∧ a = if q = true then ("true" : Str) else ("false" : Str)) → ∀ σ : St, σ[0]? = some (some v) → tLf P w "null" "true" "false" [(tC .non, tC (.str "null")), (tC (.bl true), tC (.str "true")), (tC (.bl false), tC (.str "false"))] (tVar 0) σ H Q := by
      intro v a ka hv σ hσ p hp
      refine ⟨rfl, upd_same, v, hσ, upd_same, ?_⟩
      have s2 : Same H (L2.upd (L2.upd H p (.dK [])) p (LfO P w p "null" "true" "false")) := fun b u e => by rw [upd_ne (ne_of_none e hp), upd_ne (ne_of_none e hp)]; exact e
      rcases hv with ⟨rfl, rfl⟩ | ⟨q, rfl, rfl⟩
      · exact .inl ⟨rfl, ka _ s2⟩
      · exact .inr ⟨q, rfl, ka _ s2⟩
    refine ⟨_, rfl, rfl, _, rfl, ?_⟩
    cases tr with
    | non => exact iteT (iteT (lf .non "null" k (.inl ⟨rfl, rfl⟩) _ rfl))
    | bl b =>
      obtain ⟨t, hty, kb, kn, kt⟩ := (kit_bl (K := K) (H := H) b).ex
      exact iteF ⟨_, rfl, .bl b, .ty "bool", .type t, .type "bool", true, rfl, .ty _, hty, kit_ty kb, _, rfl, iteT (lf (.bl b) _ k (.inr ⟨b, rfl, rfl⟩) _ rfl)⟩
    | int i hi =>
      obtain ⟨t, hty, kb, kn, kt⟩ := (kit_int (K := K) (H := H) i).ex
      refine iteF ⟨_, rfl, .int i, .ty "bool", .type t, .type "bool", false, rfl, .ty _, hty, kit_ty kb, _, rfl, iteF ?_⟩
      refine ⟨_, rfl, .int i, .ty "int", .type t, .type "int", true, rfl, .ty _, hty, kit_ty kn, _, rfl, iteT ?_⟩
      exact ⟨_, rfl, i, rfl, by omega, k _ (Same.refl _)⟩
    | str z hz =>
      obtain ⟨t, hty, kb, kn, kt⟩ := (kit_str (K := K) (H := H) z).ex
      refine iteF ⟨_, rfl, .str z, .ty "bool", .type t, .type "bool", false, rfl, .ty _, hty, kit_ty kb, _, rfl, iteF ?_⟩
      refine ⟨_, rfl, .str z, .ty "int", .type t, .type "int", false, rfl, .ty _, hty, kit_ty kn, _, rfl, iteF ?_⟩
      refine ⟨_, rfl, .str z, .ty "str", .type t, .type "str", true, rfl, .ty _, hty, kit_ty kt, _, rfl, iteT ?_⟩
      refine ⟨⟨_, rfl⟩, _, rfl, z, rfl, fun D hD => ?_⟩
      have ez : z.cps.toList.length = z.length := Array.length_toList
      refine lc_it walk_str (fun i H2 => Same H H2 ∧ H2 D = some (.lst (((z.cps.toList.take i).map dch).map V.str))) ⟨same_new hD _, upd_same⟩ (fun _ _ _ _ => trivial) ?_ ?_
      · rintro i x H2 H3 hi ⟨s2, hD2⟩ ⟨rfl, c, hc, rfl⟩
        have e : z.cps.toList[i]? = some c := by rw [Array.getElem?_toList]; exact hc
        refine ⟨rfl, ?_⟩
        refine tYes_go ?_
        have fin : ∀ y : V, y = .str (dch c) → ∃ acc, H3 D = some (.lst acc) ∧ acc.length < sizeLine ∧ Same H (L2.upd H3 D (.lst (acc ++ [y]))) ∧ (L2.upd H3 D (.lst (acc ++ [y]))) D = some (.lst (((z.cps.toList.take (i + 1)).map dch).map V.str)) := by
          rintro y rfl
          refine ⟨_, hD2, ?_, fun p o e => by rw [upd_ne (ne_of_none e hD)]; exact s2 _ _ e, ?_⟩
          · refine small1000 ?_
            rw [List.length_map, List.length_map, List.length_take]
            omega
          · rw [upd_same, strs_take dch _ e]
        have dc := dch_is c
        refine ⟨_, rfl, _, rfl, rfl, .inr ⟨_, rfl, 1, _, rfl, rfl, ⟨#[c]⟩, rfl, by show 1 ≤ 10; decide, ?_⟩⟩
        cases q : decide (V.str (⟨#[c]⟩ : Str) = V.str "'") with
        | true =>
          rw [q, if_pos rfl] at dc
          exact .inr ⟨rfl, (by show 1 ≠ 0; decide), fin _ dc⟩
        | false =>
          rw [q, if_neg Bool.false_ne_true] at dc
          exact .inl ⟨rfl, fin _ dc⟩
      · rintro H2 ⟨s2, hD2⟩
        rw [show z.cps.toList.take z.cps.size = z.cps.toList by rw [← Array.length_toList, List.take_length]] at hD2
        have dl := dbl_len z
        have sd := sum_dch z.cps.toList
        refine ⟨"", D, z.cps.toList.map dch, rfl, rfl, .inl (SqL.of hD2), ?_, _, _, rfl, rfl, ?_, _, _, rfl, rfl, ?_, k _ s2⟩
        · rw [show (("" : Str)).length = 0 from rfl, Nat.mul_zero]
          omega
        · show 1 + (dbl z).length ≤ sizeLine
          exact line1m (by omega)
        · show ((qt : Str) ++ dbl z).length + 1 ≤ sizeLine
          rw [len_append]
          exact line1m (by have : qt.length = 1 := rfl; omega)
    | @tup a xs ds h r hl =>
      obtain ⟨t, hty, kb, kn, kt⟩ := (kit_tup (K := K) h).ex
      refine iteF ⟨_, rfl, .ref a, .ty "bool", .type t, .type "bool", false, rfl, .ty _, hty, kit_ty kb, _, rfl, iteF ?_⟩
      refine ⟨_, rfl, .ref a, .ty "int", .type t, .type "int", false, rfl, .ty _, hty, kit_ty kn, _, rfl, iteF ?_⟩
      refine ⟨_, rfl, .ref a, .ty "str", .type t, .type "str", false, rfl, .ty _, hty, kit_ty kt, _, rfl, iteF ?_⟩
      have hd2 : dep.depAll ds < n + 1 := by rw [dep] at hd; omega
      have hw2 : wt.wtAll ds + 3 ≤ 1000000 := by rw [wt] at hw; exact hw
      refine ⟨⟨_, rfl⟩, _, rfl, a, rfl, ⟨_, SqT.of h⟩, fun D hD => ?_⟩
      refine lc_tup (K := K) (a := a) (xs := xs) (vs := [2]) (fun i H2 => Same H H2 ∧ H2 D = some (.lst (((ds.take i).map txt).map V.str))) ⟨same_new hD _, upd_same⟩ (fun i H2 _ q => SqT.of (q.1 _ _ h)) ?_ ?_
      · rintro i x H2 hx ⟨s2, hD2⟩
        obtain ⟨d, hdi, trd⟩ := r.at hx
        have dm := List.mem_of_getElem? hdi
        have d1 := dep_mem dm
        have d2 := wt_mem dm
        have il : i < xs.length := (List.getElem?_eq_some_iff.mp hx).1
        refine ⟨rfl, ?_⟩
        refine tYes_go ?_
        refine ⟨_, rfl, x, d, rfl, trd.keep (Tups.of_same s2), by omega, by omega, fun H3 s3 => ?_⟩
        refine ⟨_, s3 _ _ hD2, ?_, same_fresh (Same.refl _) hD (s2.trans s3) _, ?_⟩
        · refine small1000 ?_
          rw [List.length_map, List.length_map, List.length_take]
          omega
        · rw [upd_same, List.take_add_one, hdi]
          simp
      · rintro H2 ⟨s2, hD2⟩
        rw [r.len, List.take_length, ← txtAll_map] at hD2
        have jl := txtAll_le r
        have jf := join_fits r (by omega)
        have jj := join_le " " (txtAll ds)
        rw [show ((" " : Str)).length = 1 from rfl, Nat.mul_one] at jj
        refine ⟨" ", D, txtAll ds, rfl, rfl, .inl (SqL.of hD2), jf, _, _, rfl, rfl, ?_, _, _, rfl, rfl, ?_, k _ s2⟩
        · show 1 + (Txt.join " " (txtAll ds)).length ≤ sizeLine
          exact line1m (by omega)
        · show (("(" : Str) ++ Txt.join " " (txtAll ds)).length + 1 ≤ sizeLine
          rw [len_append]
          exact line1m (by have : (("(" : Str)).length = 1 := rfl; omega)
end
end Ask
namespace Ask
open PySem L2
theorem boot_range : bootBuiltins ("range" : Str) = some (.type "range") := by decide +kernel
theorem boot_tuple : bootBuiltins ("tuple" : Str) = some (.type "tuple") := by decide +kernel
theorem all_nil {p : V → Prop} : ∀ x ∈ ([] : List V), p x := fun _ h => nomatch h
theorem all_cons {p : V → Prop} {a : V} {l : List V} (h : p a) (t : ∀ x ∈ l, p x) : ∀ x ∈ a :: l, p x := fun x hx => by
  cases hx with
  | head => exact h
  | tail _ hx => exact t x hx
section
variable {P : Program} {w : World} {K : PySem.W.Frag} {mg : Str → Option Value} {base : Heap}
theorem ok_tree {f : Addr} {fd : FuncData} (F : Fun K "_law_tree" "_law_tree" sTree f fd) (B : Blt mg) (hm : mg "_law_tree" = some (.ref f)) (kp : PySem.W.keepIn K (.ref f) = true) (hb : Binds K fd ["_law_tree_here"] []) :
    ∀ n, FnOk P w K mg base CX0 n f fd ["_law_tree_here"] (spTree n)
  | 0 => ⟨fun vs H Q E h => by obtain ⟨v, d, rfl, _⟩ := h; rfl, fun A outer s H args us vs Q E _ _ _ _ h => by
    obtain ⟨v, d, _, tr, hd, _⟩ := h
    have : 1 ≤ dep d := by
      cases d <;> simp [dep]
    omega⟩
  | n + 1 => ok_law_tree F B ⟨f, fd, hm, kp, hb, ok_tree F B hm kp hb n⟩
def one1 (c : Nat) : Str := ⟨#[c]⟩
theorem sum_one : ∀ cs : List Nat, ((cs.map one1).map (·.length)).sum = cs.length
  | [] => rfl
  | c :: cs => by
    have := sum_one cs
    simp only [List.map_cons, List.sum_cons, List.length_cons]
    have e : (one1 c).length = 1 := rfl
    omega
/-! ### _law_leaf_tree -/
def spLeaf : Sp := fun vs H Q _ => ∃ (d : Addr) (p : Int), vs = [.ref d] ∧ Tape H d p ∧ p < 950000000 ∧ ∀ (v : V) (t : PyData) (p' : Int) (H' : Hp), Tr H' v t → dep t ≤ 1 → wt t ≤ 250 → Tape H' d p' → p' ≤ p + 20 → Off H H' d → Q v H'
def leafV (v : V) : Prop := ∀ H : Hp, ∃ t, Tr H v t ∧ dep t ≤ 1 ∧ wt t ≤ 250
theorem leaf_non : leafV .non := fun _ => ⟨_, .non, by decide, by decide⟩
theorem leaf_bl (b : Bool) : leafV (.bl b) := fun _ => ⟨_, .bl b, by simp [dep], by simp [wt]⟩
theorem leaf_int (i : Int) (h : i.natAbs < 2 ^ 200) : leafV (.int i) := fun _ => by
  have := PySem.Flt.log2_lt_of (by decide) h
  exact ⟨_, .int i (by omega), by simp [dep], by rw [wt]; omega⟩
theorem leaf_strv (z : Str) (h : z.length ≤ 100) : leafV (.str z) := fun _ => ⟨_, .str z h, by simp [dep], by rw [wt]; omega⟩
abbrev n_law_leaf_tree : List Str := ["_law_tape", "_law_way", "_law_signs", "_law_k"]
theorem sc_law_leaf_tree : FnScope n_law_leaf_tree ["_law_tape"] (defScope sLeaf) := ⟨rfl, rfl, rfl, by decide +kernel, rfl, by decide +kernel, by decide +kernel⟩
theorem ok_law_leaf_tree {f : Addr} {fd : FuncData} (F : Fun K "_law_leaf_tree" "_law_leaf_tree" sLeaf f fd) (B : Blt mg) (DD : Dn P w K mg base 1 "_law_draw" ["_law_tape", "_law_many"] spDraw) (DP : Dn P w K mg base 2 "_law_pick" ["_law_tape", "_law_items"] (spPick K)) : FnOk P w K mg base CX0 3 f fd ["_law_tape"] spLeaf := by
  refine F.ok sc_law_leaf_tree (fun vs H Q E h => ?_) (fun cdv A outer s H vs Q E hr h => ?_)
  · obtain ⟨d, p, rfl, _⟩ := h
    rfl
  · obtain ⟨d, p, rfl, T, hp, k⟩ := h
    have hr1 : Room 1 _ := hr.mono (by decide)
    refine ⟨_, (pss_cons (ps_set (i := 1) sc_law_leaf_tree.nd rfl (Or.inl rfl) (pe_dn DD hr1 (by rfl) (pa_cons (pv 0) (pa_cons pe_int pa_nil))))
      (pss_cons (ps_if (pt_cmpR op_lt (pv 1) pe_int (nomark _)) (pss_one (ps_ret (pe_dn DP hr (by rfl) (pa_cons (pv 0) (pa_cons (pe_lst (pa_cons pe_non (pa_cons pe_bl (pa_cons pe_bl (pa_cons pe_int (pa_cons pe_int (pa_cons (pe_un un_neg pe_int) pa_nil))))))) pa_nil))))) pss_nil)
      (pss_cons (ps_if (pt_cmpR op_eq (pv 1) pe_int (nomark _)) (pss_one (ps_ret (pe_dn DP hr (by rfl) (pa_cons (pv 0) (pa_cons (pe_lst (pa_cons (pe_op op_pow pe_int pe_int) (pa_cons (pe_un un_neg (pe_op op_pow pe_int pe_int)) (pa_cons (pe_dn DD hr1 (by rfl) (pa_cons (pv 0) (pa_cons (pe_op op_pow pe_int pe_int) pa_nil))) (pa_cons (pe_op op_sub pe_int (pe_dn DD hr1 (by rfl) (pa_cons (pv 0) (pa_cons (pe_op op_pow pe_int pe_int) pa_nil)))) pa_nil))))) pa_nil))))) pss_nil)
      (pss_cons (ps_set (i := 2) sc_law_leaf_tree.nd rfl (Or.inr rfl) pe_str)
      (pss_one (ps_ret (pe_join pe_str (pe_lc (own := [("_law_k", 3)]) (g := gName 3) (tt := tYes) rfl sc_law_leaf_tree.nd (pi_range1 (by rfl) B.range (pa_cons (pe_dn DD hr1 (by rfl) (pa_cons (pv 0) (pa_cons pe_int pa_nil))) pa_nil)) (blkOk_by (own := [("_law_k", 3)]) (N := n_law_leaf_tree) (sc := (defScope sLeaf)) (by decide +kernel)) (fun _ _ _ _ _ => pg_name (i := 3) sc_law_leaf_tree.nd rfl (Or.inl rfl)) (fun _ _ _ _ _ => pts_nil) (fun _ _ _ _ _ => (pe_dn DP hr (by rfl) (pa_cons (pv 0) (pa_cons (pv 2) pa_nil)))))))))))), ?_⟩
    refine ⟨_, rfl, d, 6, p, rfl, by decide, by decide, T, by omega, fun n1 p1 H1 a0 a1 T1 hp1 o1 => ?_⟩
    refine ⟨_, rfl, _, _, rfl, rfl, _, rfl, ?_⟩
    refine ite2 (fun _ => ?_) (fun _ => ?_)
    · refine ⟨_, rfl, 1, rfl, by show 6 ≤ sizeLine; decide, fun l hl => ?_⟩
      refine ⟨d, .ref l, _, p1, rfl, T1.new hl _, by omega, .inl ⟨l, rfl, SqL.of upd_same⟩, (by intro z; cases z), by show 6 < 1073741824; decide, fun x p2 H2 hx T2 hp2 o2 => ?_⟩
      have lx : leafV x := all_cons leaf_non (all_cons (leaf_bl _) (all_cons (leaf_bl _) (all_cons (leaf_int _ (by decide)) (all_cons (leaf_int _ (by decide)) (all_cons (leaf_int _ (by decide)) all_nil))))) x hx
      obtain ⟨t, t1, t2, t3⟩ := lx H2
      exact k x t p2 H2 t1 t2 t3 T2 (by omega) ((o1.new hl _).trans o2)
    refine ⟨_, rfl, rfl, _, rfl, ?_⟩
    refine ite2 (fun _ => ?_) (fun _ => ?_)
    · have c3 : (CPow 10 59 ∧ CPow 10 40) ∧ CPow 10 9 := ⟨⟨⟨by decide, by decide, by decide⟩, by decide, by decide, by decide⟩, by decide, by decide, by decide⟩
      refine ⟨_, rfl, 10, 59, rfl, rfl, c3.1.1, 10, 40, rfl, rfl, c3.1.2, _, rfl, _, rfl, 10, 9, rfl, rfl, c3.2, d, _, p1, rfl, by decide, by decide, T1, by omega, fun n2 p2 H2 b0 b1 T2 hp2 o2 => ?_⟩
      refine ⟨_, rfl, 10, 9, rfl, rfl, c3.2, d, _, p2, rfl, by decide, by decide, T2, by omega, fun n3 p3 H3 c0 c1 T3 hp3 o3 => ?_⟩
      refine ⟨_, _, rfl, rfl, by show 4 ≤ sizeLine; decide, fun l hl => ?_⟩
      refine ⟨d, .ref l, _, p3, rfl, T3.new hl _, by omega, .inl ⟨l, rfl, SqL.of upd_same⟩, (by intro z; cases z), by show 4 < 1073741824; decide, fun x p4 H4 hx T4 hp4 o4 => ?_⟩
      have e9 : (10 : Int) ^ (9 : Int).toNat = 1000000000 := by decide
      rw [e9] at b1 c1
      have e20 : (1000000000 : Nat) < 2 ^ 200 := by decide +kernel
      have lx : leafV x := all_cons (leaf_int _ (by decide +kernel)) (all_cons (leaf_int _ (by decide +kernel)) (all_cons (leaf_int _ (by omega)) (all_cons (leaf_int _ (by omega)) all_nil))) x hx
      obtain ⟨t, t1, t2, t3⟩ := lx H4
      exact k x t p4 H4 t1 t2 t3 T4 (by omega) ((((o1.trans o2).trans o3).new hl _).trans o4)
    refine ⟨⟨_, rfl⟩, _, rfl, d, 7, p1, rfl, by decide, by decide, T1, by omega, fun n2 p2 H2 b0 b1 T2 hp2 o2 => ⟨n2, rfl, by omega, by omega, fun D hD => ?_⟩⟩
    obtain ⟨kv2, hd2⟩ := T2.at
    have ndD : d ≠ D := ne_of_none hd2 hD
    refine lc_it walk_range (fun i H3 => ∃ (p3 : Int) (cs : List Nat), Tape H3 d p3 ∧ p3 ≤ p2 + i ∧ Off H2 H3 d ∧ H3 D = some (.lst ((cs.map one1).map V.str)) ∧ cs.length = i)
      ⟨p2, [], T2.new hD _, by omega, (Off.refl _ _).new hD _, upd_same, rfl⟩ (fun _ _ _ _ => trivial) ?_ ?_
    · rintro i y H3 H4 hi ⟨p3, cs, T3, hp3, o3, hD3, hcs⟩ ⟨rfl, rfl⟩
      refine ⟨rfl, ?_⟩
      refine tYes_go ?_
      refine ⟨_, rfl, _, rfl, d, .str "'' abAZ09()#_-~!", _, p3, rfl, T3, by omega, .inr (.inr ⟨_, rfl, by decide +kernel, rfl⟩), by decide +kernel, by decide +kernel, fun x p4 H5 hx T5 hp4 o5 => ?_⟩
      obtain ⟨c, hc, rfl⟩ := List.mem_map.mp hx
      have oo := o3.trans o5
      have hD5 : H5 D = some (.lst ((cs.map one1).map V.str)) := o5 _ _ hD3 ndD.symm
      refine ⟨_, hD5, ?_, p4, cs ++ [c], T5.fresh T2 oo hD _, by omega, oo.fresh hD ndD _, ?_, by rw [List.length_append, hcs]; rfl⟩
      · rw [List.length_map, List.length_map]
        exact small1000 (by omega)
      · rw [upd_same, List.map_append, List.map_append]
        rfl
    · rintro H3 ⟨p3, cs, T3, hp3, o3, hD3, hcs⟩
      have sl := sum_one cs
      refine ⟨"", D, cs.map one1, rfl, rfl, .inl (SqL.of hD3), ?_, ?_⟩
      · rw [show (("" : Str)).length = 0 from rfl, Nat.mul_zero, sl]
        omega
      · have jl := join_le "" (cs.map one1)
        rw [show (("" : Str)).length = 0 from rfl, Nat.mul_zero, sl] at jl
        obtain ⟨t, t1, t2, t3⟩ := leaf_strv (Txt.join "" (cs.map one1)) (by omega) H3
        exact k _ t p3 H3 t1 t2 t3 T3 (by omega) ((o1.trans o2).trans o3)
end
end Ask
namespace Ask
open PySem L2
/-- how far a drawn tree moves the reader, and how great it is -/
def cI : Nat → Nat
  | 0 => 30
  | n + 1 => 5 * cI n
def wI : Nat → Nat
  | 0 => 250
  | n + 1 => 5 * wI n
theorem cI_ge : ∀ n, 30 ≤ cI n
  | 0 => Nat.le_refl _
  | n + 1 => by have := cI_ge n; rw [cI]; omega
theorem wI_ge : ∀ n, 250 ≤ wI n
  | 0 => Nat.le_refl _
  | n + 1 => by have := wI_ge n; rw [wI]; omega
theorem mulS (i c : Nat) : (i + 1) * c = i * c + c := Nat.succ_mul i c
theorem mul4 {i c : Nat} (h : i ≤ 4) : i * c ≤ 4 * c := Nat.mul_le_mul_right c h
theorem depAll_snoc {x : PyData} {m : Nat} (hx : dep x ≤ m) : ∀ {xs : List PyData}, dep.depAll xs ≤ m → dep.depAll (xs ++ [x]) ≤ m
  | [], h => by
    rw [List.nil_append, dep.depAll]
    exact Nat.max_le.mpr ⟨hx, h⟩
  | y :: ys, h => by
    rw [dep.depAll] at h
    rw [List.cons_append, dep.depAll]
    obtain ⟨h1, h2⟩ := Nat.max_le.mp h
    exact Nat.max_le.mpr ⟨h1, depAll_snoc hx h2⟩
theorem wtAll_snoc (x : PyData) : ∀ xs : List PyData, wt.wtAll (xs ++ [x]) = wt.wtAll xs + (wt x + 1)
  | [] => by simp [wt.wtAll]
  | y :: ys => by rw [List.cons_append, wt.wtAll, wt.wtAll, wtAll_snoc x ys]; omega
section
variable {P : Program} {w : World} {K : PySem.W.Frag} {mg : Str → Option Value} {base : Heap}
def spDrawn (n : Nat) : Sp := fun vs H Q _ => ∃ (d : Addr) (m : Nat) (p : Int), vs = [.ref d, .int m] ∧ m < n ∧ Tape H d p ∧ p + (cI m : Nat) < 900000000 ∧
  ∀ (v : V) (t : PyData) (p' : Int) (H' : Hp), Tr H' v t → dep t ≤ m + 1 → wt t ≤ wI m → Tape H' d p' → p' ≤ p + (cI m : Nat) → Off H H' d → Q v H'
abbrev n_law_drawn_tree : List Str := ["_law_tape", "_law_deep", "_law_k"]
theorem sc_law_drawn_tree : FnScope n_law_drawn_tree ["_law_tape", "_law_deep"] (defScope sDrawn) := ⟨rfl, rfl, rfl, by decide +kernel, rfl, by decide +kernel, by decide +kernel⟩
theorem ok_law_drawn_tree {f : Addr} {fd : FuncData} (F : Fun K "_law_drawn_tree" "_law_drawn_tree" sDrawn f fd) (B : Blt mg) {n : Nat} (DD : Dn P w K mg base 1 "_law_draw" ["_law_tape", "_law_many"] spDraw) (DL : Dn P w K mg base 3 "_law_leaf_tree" ["_law_tape"] spLeaf) (DT : Dn P w K mg base (n + 3) "_law_drawn_tree" ["_law_tape", "_law_deep"] (spDrawn n)) : FnOk P w K mg base CX0 (n + 4) f fd ["_law_tape", "_law_deep"] (spDrawn (n + 1)) := by
  refine F.ok sc_law_drawn_tree (fun vs H Q E h => ?_) (fun cdv A outer s H vs Q E hr h => ?_)
  · obtain ⟨d, m, p, rfl, _⟩ := h
    rfl
  · obtain ⟨d, m, p, rfl, hm, T, hp, k⟩ := h
    have hr1 : Room 1 _ := hr.mono (by omega)
    have hr3 : Room 3 _ := hr.mono (by omega)
    have c0 := cI_ge m
    have w0 := wI_ge m
    refine ⟨_, (pss_cons (ps_if (pw_or (pt_cmpR op_eq (pv 1) pe_int (nomark _)) (pw_or1 (pt_cmpR op_eq (pe_dn DD hr1 (by rfl) (pa_cons (pv 0) (pa_cons pe_int pa_nil))) pe_int (nomark _)))).pt (pss_one (ps_ret (pe_dn DL hr3 (by rfl) (pa_cons (pv 0) pa_nil)))) pss_nil)
      (pss_one (ps_ret (pe_callTy call_tuple_of (by rfl) B.tuple boot_tuple (pa_cons (pe_lc (own := [("_law_k", 2)]) (g := gName 2) (tt := tYes) rfl sc_law_drawn_tree.nd (pi_range1 (by rfl) B.range (pa_cons (pe_dn DD hr1 (by rfl) (pa_cons (pv 0) (pa_cons pe_int pa_nil))) pa_nil)) (blkOk_by (own := [("_law_k", 2)]) (N := n_law_drawn_tree) (sc := (defScope sDrawn)) (by decide +kernel)) (fun _ _ _ _ _ => pg_name (i := 2) sc_law_drawn_tree.nd rfl (Or.inl rfl)) (fun _ _ _ _ _ => pts_nil) (fun _ _ _ _ _ => (pe_dn DT hr (by rfl) (pa_cons (pv 0) (pa_cons (pe_op op_sub (pv 1) pe_int) pa_nil))))) pa_nil))))), ?_⟩
    have leaf : ∀ (p1 : Int) (H1 : Hp), Tape H1 d p1 → p1 ≤ p + 1 → Off H H1 d → ∀ σ : St, σ[0]? = some (some (.ref d)) → (tCall spLeaf [] E0 (tCons (tVar 0) tNil)) σ H1 Q := by
      intro p1 H1 T1 hp1 o1 σ hσ
      exact ⟨_, hσ, d, p1, rfl, T1, by omega, fun v t p2 H2 tr dt wt' T2 hp2 o2 => k v t p2 H2 tr (by omega) (by omega) T2 (by omega) (o1.trans o2)⟩
    refine ⟨_, rfl, rfl, _, rfl, ?_⟩
    cases e : decide (V.int (m : Int) = V.int 0) with
    | true => exact iteT (iteT (leaf p H T (by omega) (Off.refl _ _) _ rfl))
    | false =>
    have hm0 : m ≠ 0 := fun q => by
      subst q
      exact absurd e (by decide)
    refine iteF ⟨_, rfl, d, 3, p, rfl, by decide, by decide, T, by omega, fun n1 p1 H1 a0 a1 T1 hp1 o1 => ⟨rfl, _, rfl, ?_⟩⟩
    refine ite2 (fun _ => leaf p1 H1 T1 hp1 o1 _ rfl) (fun _ => ?_)
    obtain ⟨j, rfl⟩ : ∃ j, m = j + 1 := ⟨m - 1, by omega⟩
    rw [cI] at c0 hp k
    rw [wI] at k
    have c1 := cI_ge j
    have w1 := wI_ge j
    refine ⟨_, rfl, d, 5, p1, rfl, by decide, by decide, T1, by omega, fun n2 p2 H2 b0 b1 T2 hp2 o2 => ⟨n2, rfl, by omega, by omega, fun D hD => ?_⟩⟩
    obtain ⟨kv2, hd2⟩ := T2.at
    have ndD : d ≠ D := ne_of_none hd2 hD
    refine lc_it walk_range (fun i H3 => ∃ (p3 : Int) (vs : List V) (ts : List PyData), Tape H3 d p3 ∧ p3 ≤ p2 + ((i * cI j : Nat) : Int) ∧ Off H2 H3 d ∧ H3 D = some (.lst vs) ∧ vs.length = i ∧ TrAll H3 vs ts ∧ dep.depAll ts ≤ j + 1 ∧ wt.wtAll ts ≤ i * (wI j + 1))
      ⟨p2, [], [], T2.new hD _, by omega, (Off.refl _ _).new hD _, upd_same, rfl, .nil, by rw [dep.depAll]; omega, by rw [wt.wtAll]; omega⟩ (fun _ _ _ _ => trivial) ?_ ?_
    · rintro i y H3 H4 hi ⟨p3, vs, ts, T3, hp3, o3, hD3, hvs, hT, hdp, hwt⟩ ⟨rfl, rfl⟩
      have hi4 : i < 4 := by omega
      have m1 := mul4 (c := cI j) (show i + 1 ≤ 4 by omega)
      have m2 := mulS i (cI j)
      have m3 := mulS i (wI j + 1)
      refine ⟨rfl, ?_⟩
      refine tYes_go ?_
      refine ⟨_, rfl, _, rfl, _, _, rfl, rfl, d, j, p3, (by show [V.ref d, V.int (((j + 1 : Nat) : Int) - 1)] = _; rw [show (((j + 1 : Nat) : Int) - 1) = (j : Int) by omega]), by omega, T3, by omega, fun v t p4 H5 tr hdt hwt' T5 hp4 o5 => ?_⟩
      have oo := o3.trans o5
      have hD5 : H5 D = some (.lst vs) := o5 _ _ hD3 ndD.symm
      obtain ⟨kv3, hd3⟩ := T3.at
      have tp : Tups H5 (L2.upd H5 D (.lst (vs ++ [v]))) := Tups.lst hD5 _
      refine ⟨vs, hD5, small1000 (by omega), p4, vs ++ [v], ts ++ [t], T5.fresh T2 oo hD _, by omega, oo.fresh hD ndD _, upd_same, by rw [List.length_append, hvs]; rfl, ?_, depAll_snoc hdt hdp, by rw [wtAll_snoc]; omega⟩
      exact TrAll.snoc (tr.keep tp) (hT.keep ((Tups.off o5 hd3).trans tp))
    · rintro H3 ⟨p3, vs, ts, T3, hp3, o3, hD3, hvs, hT, hdp, hwt⟩
      have hn : n2.toNat ≤ 4 := by omega
      have m1 := mul4 (c := cI j) hn
      have m3 := mul4 (c := wI j + 1) hn
      refine ⟨D, vs, rfl, .inl ⟨SqL.of hD3, fun t ht => ?_⟩⟩
      refine k (.ref t) (.tuple ts) p3 _ (.tup upd_same (hT.keep (Tups.of_same (same_new ht _))) (by omega)) ?_ ?_ (T3.new ht _) (by omega) (((o1.trans o2).trans o3).new ht _)
      · rw [dep]; omega
      · rw [wt]; omega
theorem ok_drawn {f : Addr} {fd : FuncData} (F : Fun K "_law_drawn_tree" "_law_drawn_tree" sDrawn f fd) (B : Blt mg) (DD : Dn P w K mg base 1 "_law_draw" ["_law_tape", "_law_many"] spDraw) (DL : Dn P w K mg base 3 "_law_leaf_tree" ["_law_tape"] spLeaf)
    (hm : mg "_law_drawn_tree" = some (.ref f)) (kp : PySem.W.keepIn K (.ref f) = true) (hb : Binds K fd ["_law_tape", "_law_deep"] []) : ∀ n, FnOk P w K mg base CX0 (n + 3) f fd ["_law_tape", "_law_deep"] (spDrawn n)
  | 0 => ⟨fun vs H Q E h => by obtain ⟨d, m, p, rfl, _⟩ := h; rfl, fun A outer s H args us vs Q E _ _ _ _ h => by
    obtain ⟨d, m, p, _, hm, _⟩ := h
    exact absurd hm (Nat.not_lt_zero _)⟩
  | n + 1 => ok_law_drawn_tree F B DD DL ⟨f, fd, hm, kp, hb, ok_drawn F B DD DL hm kp hb n⟩
end
end Ask
namespace Ask
open PySem L2
/-- the name of write_tree's parameter -/
abbrev wPar : Str := "tree"
theorem join_empty (cs : List Nat) (g : Nat → Str) : (Txt.join "" (cs.map g)).cps.toList = cs.flatMap fun c => (g c).cps.toList := by
  rw [show Txt.join "" (cs.map g) = Str.join "" (cs.map g) from StrLaws.glued_eq_join "" (cs.map g)]
  induction cs with
  | nil => rfl
  | cons c r ih =>
    cases r with
    | nil => rw [List.map_cons, List.map_nil, List.flatMap_cons, List.flatMap_nil, List.append_nil]; rfl
    | cons c2 r2 =>
      rw [List.map_cons, List.map_cons, List.flatMap_cons, ← ih, List.map_cons]
      show ((g c ++ "" ++ Str.join "" (g c2 :: r2.map g) : Str)).cps.toList = _
      show (((g c).cps ++ (("" : Str)).cps) ++ (Str.join "" (g c2 :: r2.map g)).cps).toList = _
      rw [Array.toList_append, Array.toList_append]
      show ((g c).cps.toList ++ []) ++ _ = _
      rw [List.append_nil]
theorem dbl_flat (c : Nat) : ∀ l : List Nat, StrLaws.dbl c l = l.flatMap fun x => if x = c then [c, c] else [x]
  | [] => rfl
  | x :: l => by
    rw [List.flatMap_cons, ← dbl_flat c l]
    by_cases h : x = c
    · subst h
      simp [StrLaws.dbl]
    · simp [StrLaws.dbl, h]
/-- signs doubled by replace -/
theorem repl_dbl (z : Str) : Txt.replace z "'" "''" = dbl z := by
  have e : (Txt.replace z "'" "''").cps.toList = (dbl z).cps.toList := by
    rw [show ("'" : Str) = ⟨#[39]⟩ by rfl, show ("''" : Str) = ⟨#[39, 39]⟩ by rfl, StrLaws.replace_double, dbl_flat]
    unfold dbl
    rw [join_empty]
    congr 1
    funext x
    unfold dch
    by_cases h : x = 39
    · subst h
      rfl
    · rw [if_neg h, if_neg (fun q => h (by cases q; rfl))]
  cases hx : Txt.replace z "'" "''" with
  | mk a =>
    cases hy : dbl z with
    | mk b =>
      rw [hx, hy] at e
      exact congrArg Str.mk (Array.toList_inj.mp e)
end Ask

namespace Ask
open PySem L2 PySem.Spec PyProof.Rows
/-- x is True, x is False: any x -/
theorem op_isBX {X : Cx} : OpR X (compareOp .Is) (fun x y H Q => ∃ b : Bool, y = .bl b ∧ Q (.bl (decide (x = .bl b))) H) := by
  intro pins s σ H x y v u Q I rx ry h
  obtain ⟨b, rfl, q⟩ := h
  cases (show u = Value.bool b from ry)
  have no : ∀ v : Value, plainIs v (.bool b) = true → v ≠ .bool b → x ≠ .bl b → wpAny (model X.prog X.w) X.A (compareOp .Is v (.bool b)) (EP X pins σ Q) X.xe s := fun v hp hne hx =>
    wpAny_is_other hp hne ⟨.bl false, H, I, rfl, by rw [decide_eq_false hx] at q; exact q⟩
  cases x with
  | bl a =>
    cases (show v = Value.bool a from rx)
    by_cases e : a = b
    · subst e
      exact wpAny_is_self rfl ⟨.bl true, H, I, rfl, by simpa using q⟩
    · exact no _ rfl (fun z => e (Value.bool.inj z)) (fun z => e (V.bl.inj z))
  | non =>
    cases (show v = Value.none from rx)
    exact no _ rfl (fun z => by cases z) (fun z => by cases z)
  | int i =>
    obtain ⟨t, rfl⟩ := rx
    exact no _ rfl (fun z => by cases z) (fun z => by cases z)
  | str z =>
    obtain ⟨t, rfl⟩ := rx
    exact no _ rfl (fun z => by cases z) (fun z => by cases z)
  | byt z =>
    obtain ⟨t, rfl⟩ := rx
    exact no _ rfl (fun z => by cases z) (fun z => by cases z)
  | flt z =>
    obtain ⟨t, rfl⟩ := rx
    exact no _ rfl (fun z => by cases z) (fun z => by cases z)
  | ref a =>
    cases (show v = Value.ref a from rx)
    exact no _ rfl (fun z => by cases z) (fun z => by cases z)
  | ty n =>
    cases (show v = Value.type n from rx)
    exact no _ rfl (fun z => by cases z) (fun z => by cases z)
/-- name = e, where e wants a token -/
theorem pst_set {X : Cx} {i : Nat} {x : Str} {e : Expr} {te : TE} {pos pos' : Pos} (hN : X.N.Nodup) (hi : X.N[i]? = some x) (hx : Loc X.env.scope x) (he : PET X e te) (hs : swapsWith e (some (.Name x pos')) pos.line X.env = pure false := by rfl) (hf : X.fn x = true ∨ X.env.scope.names.lookup x = some .local := by first | exact .inl rfl | exact .inr rfl | assumption) :
    PST X (.Assign [.Name x pos'] e pos) (tAsg te (gName i)) := by
  intro pins s σ H D h0 I h
  refine wpAny_Assign_Name (thn (he pins s σ H _ h0 I h) fun v s1 ⟨y, H1, I1, r1, q1⟩ => ?_) hs
  exact store_ok I1 hN hi hx r1 (fun s2 I2 => ⟨_, H1, I2, q1⟩) hf
theorem join3 {a b c : Str} {σ : L2.St} {H : Hp} {P : Str → Hp → Prop} (h1 : a.length ≤ sizeLine) (h2 : (a ++ b).length ≤ sizeLine) (h3 : ((a ++ b) ++ c).length ≤ sizeLine) (te : TE) (hb : ∀ Q : VK, (b.length ≤ sizeLine ∧ Q (.str b) H) → te σ H Q) (k : P ((a ++ b) ++ c) H) :
    tJs [tC (.str a), te, tC (.str c)] Str.empty σ H P := by
  have e0 : Str.empty ++ a = a := by
    cases a with
    | mk x => exact congrArg Str.mk (by show #[] ++ x = x; simp)
  refine ⟨a, rfl, by rw [e0]; exact h1, hb _ ⟨?_, b, rfl, by rw [e0]; exact h2, c, rfl, by rw [e0]; exact h3, ?_⟩⟩
  · rw [len_append] at h2; omega
  · show P (((Str.empty ++ a) ++ b) ++ c) H
    rw [e0]
    exact k
theorem fun_okT {P : Program} {w : World} {K : PySem.W.Frag} {mg : Str → Option Value} {base : Heap} {x qual : Str} {st : Stmt} {f : Addr} {fd : FuncData} {N ps : List Str} {k : Nat} {sp : Sp} (F : Fun K x qual st f fd) (S : FnScope N ps (defScope st)) (hnc : ∀ y ∈ (defScope st).names, y.2 ≠ .cell) (hps : 1 ≤ ps.length)
    (len : ∀ vs H Q E, sp vs H Q E → vs.length = ps.length)
    (hbody : ∀ (cdv : Value) (A : Around) (outer : List Env) (s : Shared) (H : Hp) (vs : List V) (Q : VK) (E : XK), Room k (A.deeper (PyProof.Rows.envOfC qual (defScope st) s.heap.objs.size f cdv)) → sp vs H Q E →
      ∃ t, PSsT (cxOf CX0 P w K mg base N qual (defScope st) f cdv A outer s H E) (defBody st) t ∧ t { nx := fun _ H' => Q .non H', rt := Q } (start N vs) H) : FnOk P w K mg base CX0 (k + 1) f fd ps sp := by
  obtain ⟨oc, od, kV, doc, pm, an, cdv, ct, osl, rfl, lk, hcd⟩ := F.ex
  exact fn_ofT lk hcd S hnc hps len fun A outer s H vs Q E hr hsp => hbody cdv A outer s H vs Q E hr hsp
section
variable {P : Program} {w : World} {K : PySem.W.Frag} {mg : Str → Option Value} {base : Heap}
abbrev n_write_tree : List Str := ["tree", "doubled", "told", "part"]
theorem sc_write_tree : FnScope n_write_tree ["tree"] (defScope sWrite) := ⟨rfl, rfl, rfl, by decide +kernel, rfl, by decide +kernel, by decide +kernel⟩
theorem ok_write_step {f : Addr} {fd : FuncData} (F : Fun K "write_tree" "write_tree" sWrite f fd) (B : Blt mg) {n : Nat} (DW : Dn P w K mg base n "write_tree" [wPar] (spTree n)) : FnOk P w K mg base CX0 (n + 1) f fd [wPar] (spTree (n + 1)) := by
  refine fun_okT F sc_write_tree (by decide +kernel) (by decide) (fun vs H Q E h => ?_) (fun cdv A outer s H vs Q E hr h => ?_)
  · obtain ⟨v, d, rfl, _⟩ := h
    rfl
  · obtain ⟨v, d, rfl, tr, hd, hw, k⟩ := h
    refine ⟨_, psst_cons (PST.of (ps_if (pt_cmpR op_isN (pv 0) pe_non (nomark _)) (pss_one (ps_ret pe_str)) pss_nil)) (psst_cons (PST.of (ps_if (pw_or (pt_cmpR op_isBX (pv 0) pe_bl (nomark _)) (pw_or1 (pt_cmpR op_isBX (pv 0) pe_bl (nomark _)))).pt (pss_one (ps_ret (pe_ifExp (pt_val (pv 0)) pe_str pe_str))) pss_nil)) (psst_cons (CwR.pst_if (pt_val (pe_callB call_isi (by rfl) B.isi boot_isi (pa_cons (pv 0) (pa_cons (pe_bltn (v := .ty "str") (by rfl) B.str boot_str rfl) pa_nil)))) (psst_cons (pst_set (i := 1) sc_write_tree.nd rfl (Or.inl rfl) (CwR.pet_replC (y := "'") (z := "''") (pv 0))) (PSsT.of (pss_one (ps_ret (pe_joined (.cons pe_str (.cons (pe_fmt (pv 1)) (.cons pe_str .nil)))))))) (PSsT.of pss_nil)) (PSsT.of (pss_cons (ps_if (pt_val (pe_callB call_isi (by rfl) B.isi boot_isi (pa_cons (pv 0) (pa_cons (pe_bltn (v := .ty "tuple") (by rfl) B.tuple boot_tuple rfl) pa_nil)))) (pss_cons (ps_set (i := 2) sc_write_tree.nd rfl (Or.inl rfl) (pe_join pe_str (pe_lc (own := [("part", 3)]) (g := gName 3) (tt := tYes) rfl sc_write_tree.nd (pi_tup (pv 0)) (blkOk_by (own := [("part", 3)]) (N := n_write_tree) (sc := (defScope sWrite)) (by decide +kernel)) (fun _ _ _ _ _ => pg_name (i := 3) sc_write_tree.nd rfl (Or.inl rfl)) (fun _ _ _ _ _ => pts_nil) (fun _ _ _ _ _ => (pe_dn DW hr (by rfl) (pa_cons (pv 3) pa_nil))))))
      (pss_one (ps_ret (pe_joined (.cons pe_str (.cons (pe_fmt (pv 2)) (.cons pe_str .nil))))))) pss_nil) (pss_one (ps_ret (pe_callTy call_str_int (by rfl) B.str boot_str (pa_cons (pv 0) pa_nil)))))))), ?_⟩
    refine ⟨_, rfl, rfl, _, rfl, ?_⟩
    cases tr with
    | non => exact iteT (k _ (Same.refl _))
    | bl b =>
      have k := k _ (Same.refl _)
      cases b with
      | true => exact iteF ⟨_, rfl, true, rfl, _, rfl, iteT (iteT ⟨_, rfl, true, rfl, iteT k⟩)⟩
      | false => exact iteF ⟨_, rfl, true, rfl, _, rfl, iteF ⟨_, rfl, false, rfl, _, rfl, iteT ⟨_, rfl, false, rfl, iteF k⟩⟩⟩
    | int i hi =>
      refine iteF ⟨_, rfl, true, rfl, _, rfl, iteF ⟨_, rfl, false, rfl, _, rfl, iteF ?_⟩⟩
      refine ⟨_, rfl, .int i, .ty "str", .type "int", .type "str", false, rfl, .ty _, .base (.int i), kit_ty (by decide +kernel), _, rfl, iteF ?_⟩
      refine ⟨_, rfl, .int i, .ty "tuple", .type "int", .type "tuple", false, rfl, .ty _, .base (.int i), kit_ty (by decide +kernel), _, rfl, iteF ?_⟩
      exact ⟨_, rfl, i, rfl, by omega, k _ (Same.refl _)⟩
    | str z hz =>
      obtain ⟨t, hty, kb, kn, kt⟩ := (kit_str (K := K) (H := H) z).ex
      refine iteF ⟨_, rfl, true, rfl, _, rfl, iteF ⟨_, rfl, false, rfl, _, rfl, iteF ?_⟩⟩
      refine ⟨_, rfl, .str z, .ty "str", .type t, .type "str", true, rfl, .ty _, hty, kit_ty kt, _, rfl, iteT ?_⟩
      have dl := dbl_len z
      refine ⟨_, rfl, z, rfl, ?_, ?_⟩
      · show z.length + (z.length + 1) * 2 ≤ 16777216
        omega
      · rw [repl_dbl]
        have e1 : qt.length = 1 := rfl
        refine join3 (a := "'") (b := dbl z) (c := "'") (line1m (by decide)) (line1m (by rw [len_append]; show 1 + _ ≤ _; omega)) (line1m (by rw [len_append, len_append]; show 1 + _ + 1 ≤ _; omega)) _ ?_ (k _ (Same.refl _))
        rintro Q2 ⟨hl, q2⟩
        exact ⟨_, rfl, .inl ⟨_, rfl, hl, q2⟩⟩
    | @tup a xs ds h r hl =>
      obtain ⟨t, hty, kb, kn, kt⟩ := (kit_tup (K := K) h).ex
      refine iteF ⟨_, rfl, true, rfl, _, rfl, iteF ⟨_, rfl, false, rfl, _, rfl, iteF ?_⟩⟩
      refine ⟨_, rfl, .ref a, .ty "str", .type t, .type "str", false, rfl, .ty _, hty, kit_ty kt, _, rfl, iteF ?_⟩
      refine ⟨_, rfl, .ref a, .ty "tuple", .type "tuple", .type "tuple", true, rfl, .ty _, .base (.tup h), kit_ty (by decide +kernel), _, rfl, iteT ?_⟩
      have hd2 : dep.depAll ds < n + 1 := by rw [dep] at hd; omega
      have hw2 : wt.wtAll ds + 3 ≤ 1000000 := by rw [wt] at hw; exact hw
      refine ⟨⟨_, rfl⟩, _, rfl, a, rfl, ⟨_, SqT.of h⟩, fun D hD => ?_⟩
      refine lc_tup (K := K) (a := a) (xs := xs) (vs := [3]) (fun i H2 => Same H H2 ∧ H2 D = some (.lst (((ds.take i).map txt).map V.str))) ⟨same_new hD _, upd_same⟩ (fun i H2 _ q => SqT.of (q.1 _ _ h)) ?_ ?_
      · rintro i x H2 hx ⟨s2, hD2⟩
        obtain ⟨d, hdi, trd⟩ := r.at hx
        have dm := List.mem_of_getElem? hdi
        have d1 := dep_mem dm
        have d2 := wt_mem dm
        have il : i < xs.length := (List.getElem?_eq_some_iff.mp hx).1
        refine ⟨rfl, ?_⟩
        refine tYes_go ?_
        refine ⟨_, rfl, x, d, rfl, trd.keep (Tups.of_same s2), by omega, by omega, fun H3 s3 => ?_⟩
        refine ⟨_, s3 _ _ hD2, ?_, same_fresh (Same.refl _) hD (s2.trans s3) _, ?_⟩
        · refine small1000 ?_
          rw [List.length_map, List.length_map, List.length_take]
          omega
        · rw [upd_same, List.take_add_one, hdi]
          simp
      · rintro H2 ⟨s2, hD2⟩
        rw [r.len, List.take_length, ← txtAll_map] at hD2
        have jl := txtAll_le r
        have jf := join_fits r (by omega)
        have jj := join_le " " (txtAll ds)
        rw [show ((" " : Str)).length = 1 from rfl, Nat.mul_one] at jj
        refine ⟨" ", D, txtAll ds, rfl, rfl, .inl (SqL.of hD2), jf, ?_⟩
        have e1 : (("(" : Str)).length = 1 := rfl
        have e2 : ((")" : Str)).length = 1 := rfl
        refine join3 (a := "(") (b := Txt.join " " (txtAll ds)) (c := ")") (line1m (by decide)) (line1m (by rw [len_append]; omega)) (line1m (by rw [len_append, len_append]; omega)) _ ?_ (k _ s2)
        rintro Q2 ⟨hl2, q2⟩
        exact ⟨_, rfl, .inl ⟨_, rfl, hl2, q2⟩⟩
theorem ok_write {f : Addr} {fd : FuncData} (F : Fun K "write_tree" "write_tree" sWrite f fd) (B : Blt mg) (hm : mg "write_tree" = some (.ref f)) (kp : PySem.W.keepIn K (.ref f) = true) (hb : Binds K fd [wPar] []) :
    ∀ n, FnOk P w K mg base CX0 n f fd [wPar] (spTree n)
  | 0 => ⟨fun vs H Q E h => by obtain ⟨v, d, rfl, _⟩ := h; rfl, fun A outer s H args us vs Q E _ _ _ _ h => by
    obtain ⟨v, d, _, tr, hd, _⟩ := h
    have : 1 ≤ dep d := by
      cases d <;> simp [dep]
    omega⟩
  | n + 1 => ok_write_step F B ⟨f, fd, hm, kp, hb, ok_write F B hm kp hb n⟩
end
end Ask
namespace Ask
open PySem L2
structure Defs (P : Program) (w : World) (K : PySem.W.Frag) (mg : Str → Option Value) (base : Heap) : Prop where
  write : Dn P w K mg base 8 "write_tree" [wPar] (spTree 8)
  beg : Dn P w K mg base 1 "_law_begin" ["_law_script"] (spBegin K)
  draw : Dn P w K mg base 1 "_law_draw" ["_law_tape", "_law_many"] spDraw
  tree : Dn P w K mg base 8 "_law_tree" ["_law_tree_here"] (spTree 8)
  drawn : Dn P w K mg base 8 "_law_drawn_tree" ["_law_tape", "_law_deep"] (spDrawn 5)
def spLaw (K : PySem.W.Frag) : Sp := fun vs H Q _ => ∃ (a : Addr) (ns : List Int), vs = [.ref a] ∧ SqL K H a (ns.map V.int) ∧ ns.length ≤ 63 ∧ ∀ H', Q (.bl true) H'
theorem cI_le : ∀ {n}, n < 5 → cI n ≤ 18750
  | 0, _ => by decide
  | 1, _ => by decide
  | 2, _ => by decide
  | 3, _ => by decide
  | 4, _ => by decide
  | n + 5, h => absurd h (by omega)
theorem wI_le : ∀ {n}, n < 5 → wI n ≤ 156250
  | 0, _ => by decide
  | 1, _ => by decide
  | 2, _ => by decide
  | 3, _ => by decide
  | 4, _ => by decide
  | n + 5, h => absurd h (by omega)
theorem neF {x y : V} {A B : Prop} (h : x = y) (k : B) : if (!decide (x = y)) = true then A else B := by
  subst h
  rw [decide_eq_true rfl]
  exact iteF k
theorem neS {x y : Str} {A B : Prop} (h : x = y) (k : B) : if (!decide (V.str x = V.str y)) = true then A else B := neF (congrArg V.str h) k
theorem txt_one (t : PyData) : txt (.tuple [t]) = (("(" : Str) ++ txt t) ++ (")" : Str) := by
  rw [txt, txtAll, txtAll]
  rw [show Txt.join " " [txt t] = txt t from StrLaws.glued_eq_join " " [txt t]]
theorem strs_dp {K : PySem.W.Frag} {H : Hp} : ∀ ys : List Str, DpAll K H (ys.map V.str) (ys.map PyData.str)
  | [] => .nil
  | y :: ys => .cons (.str y) (strs_dp ys)
def someD : List PyData := [.none, .bool true, .bool false, .int 0, .int (-7), .str "", .str "'", .tuple []]
def someT : List Str := (["null", "true", "false", "0", "-7", "''", "''''", "()"] : List String).map Str.ofString
def someV (t0 : Addr) : List V := [.non, .bl true, .bl false, .int 0, .int (-7), .str "", .str "'", .ref t0]
theorem ifF {c : Bool} {A B : Prop} (h : c = false) (k : B) : if c = true then A else B := by rw [h]; exact iteF k
theorem some_txt : someD.map txt = someT := by rw [← txtAll_map]; decide +kernel
theorem some_split : Txt.split "null true false 0 -7 '' '''' ()" " " = someT := by decide +kernel
theorem some_shaped : SeqAt.shaped (.list (someT.map PyData.str)) = true := by decide +kernel
theorem some_eqv : PyData.eqv (.list (someT.map PyData.str)) (.list (someT.map PyData.str)) = true := by decide +kernel
theorem last_txt : txt (.tuple [.str "=", .tuple [.str "column", .int 1], .tuple [.str "value", .str "it's"]]) = ("('=' ('column' 1) ('value' 'it''s'))" : Str) := by decide +kernel
theorem someD_ok : ∀ {i : Nat} {t : PyData}, someD[i]? = some t → dep t ≤ 2 ∧ wt t ≤ 100
  | 0, t, h => by cases h; decide
  | 1, t, h => by cases h; decide
  | 2, t, h => by cases h; decide
  | 3, t, h => by cases h; decide
  | 4, t, h => by cases h; decide
  | 5, t, h => by cases h; decide
  | 6, t, h => by cases h; decide
  | 7, t, h => by cases h; decide
  | n + 8, t, h => by cases h
abbrev n_law : List Str := ["_law_script", "_law_tape", "_law_turn", "_law_tree_here", "_law_one"]
theorem sc_law : FnScope n_law ["_law_script"] (defScope sLaw) := ⟨rfl, rfl, rfl, by decide +kernel, rfl, by decide +kernel, by decide +kernel⟩
theorem ok_law {P : Program} {w : World} {K : PySem.W.Frag} {mg : Str → Option Value} {base : Heap} {f : Addr} {fd : FuncData} (F : Fun K "law" "law" sLaw f fd) (B : Blt mg) (D : Defs P w K mg base) : FnOk P w K mg base CX0 9 f fd ["_law_script"] (spLaw K) := by
  refine F.ok sc_law (fun vs H Q E h => ?_) (fun cdv A outer s H vs Q E hr h => ?_)
  · obtain ⟨a, ns, rfl, _⟩ := h
    rfl
  · obtain ⟨a, ns, rfl, hS, hlen, k⟩ := h
    have hr1 : Room 1 _ := hr.mono (by decide)
    have hr8 : Room 8 _ := hr.mono (by decide)
    refine ⟨_, (pss_cons (ps_set (i := 1) sc_law.nd rfl (Or.inl rfl) (pe_dn D.beg hr1 (by rfl) (pa_cons (pv 0) pa_nil)))
      (pss_cons (ps_for PassesOwn.never rfl (pi_range1 (by rfl) B.range (pa_cons pe_int pa_nil)) (pg_name (i := 2) sc_law.nd rfl (Or.inl rfl)) (pss_cons (ps_set (i := 3) sc_law.nd rfl (Or.inl rfl) (pe_dn D.drawn hr8 (by rfl) (pa_cons (pv 1) (pa_cons (pe_dn D.draw hr1 (by rfl) (pa_cons (pv 1) (pa_cons pe_int pa_nil))) pa_nil))))
      (pss_one (ps_if (pw_or (pt_cmpR op_ne (pe_dn D.write hr8 (by rfl) (pa_cons (pv 3) pa_nil)) (pe_dn D.tree hr8 (by rfl) (pa_cons (pv 3) pa_nil)) (nomark _)) (pw_or1 (pt_cmpR op_ne (pe_dn D.write hr8 (by rfl) (pa_cons (pe_tup (pa_cons (pv 3) pa_nil)) pa_nil)) (pe_op op_add_str (pe_op op_add_str pe_str (pe_dn D.tree hr8 (by rfl) (pa_cons (pv 3) pa_nil))) pe_str) (nomark _)))).pt (pss_one (ps_ret pe_bl)) pss_nil))))
      (pss_cons (ps_if (pt_cmpR (op_neD hr.units) (pe_lc (own := [("_law_one", 4)]) (g := gName 4) (tt := tYes) rfl sc_law.nd (pi_list (pe_lst (pa_cons pe_non (pa_cons pe_bl (pa_cons pe_bl (pa_cons pe_int (pa_cons (pe_un un_neg pe_int) (pa_cons pe_str (pa_cons pe_str (pa_cons (pe_tup pa_nil) pa_nil)))))))))) (blkOk_by (own := [("_law_one", 4)]) (N := n_law) (sc := (defScope sLaw)) (by decide +kernel)) (fun _ _ _ _ _ => pg_name (i := 4) sc_law.nd rfl (Or.inl rfl)) (fun _ _ _ _ _ => pts_nil) (fun _ _ _ _ _ => (pe_dn D.write hr8 (by rfl) (pa_cons (pv 4) pa_nil)))) (pe_split pe_str pe_str) (nomark _)) (pss_one (ps_ret pe_bl)) pss_nil)
      (pss_one (ps_ret (pe_cmpR op_eq (pe_dn D.write hr8 (by rfl) (pa_cons (pe_tup (pa_cons pe_str (pa_cons (pe_tup (pa_cons pe_str (pa_cons pe_int pa_nil))) (pa_cons (pe_tup (pa_cons pe_str (pa_cons pe_str pa_nil))) pa_nil)))) pa_nil)) pe_str (nomark _))))))), ?_⟩
    refine ⟨_, rfl, a, ns, rfl, hS, fun d H0 hd0 T0 s0 => ?_⟩
    refine ⟨12, rfl, by decide, by decide, for_range (n := 12) (fun i σ H1 => ∃ u2 u3 p, σ = [some (.ref a), some (.ref d), u2, u3, none] ∧ Tape H1 d p ∧ p ≤ 20000 * (i : Int)) ⟨none, none, 0, rfl, T0, by omega⟩ ?_ ?_⟩
    · rintro i σ H1 hi ⟨u2, u3, p, rfl, T1, hp⟩
      refine ⟨_, rfl, _, rfl, d, 5, p, rfl, by decide, by decide, T1, by omega, fun n p1 H2 a0 a1 T2 hp1 o1 => ?_⟩
      obtain ⟨m, rfl⟩ := Int.eq_ofNat_of_zero_le a0
      have hm : m < 5 := by omega
      have c1 := cI_le hm
      have w1 := wI_le hm
      refine ⟨d, m, p1, rfl, hm, T2, by omega, fun v t p2 H3 tr hd hw T3 hp2 o2 => ?_⟩
      refine ⟨_, rfl, v, t, rfl, tr, by omega, by omega, fun H4 s4 => ?_⟩
      refine ⟨_, rfl, v, t, rfl, tr.keep (Tups.of_same s4), by omega, by omega, fun H5 s5 => ?_⟩
      have s := s4.trans s5
      refine ⟨rfl, _, rfl, neS rfl ?_⟩
      refine ⟨_, rfl, by show 1 ≤ sizeLine; decide, fun q hq => ?_⟩
      have s := s.trans (same_new hq (.tup [v]))
      have dt1 : dep (.tuple [t]) = max (dep t) 1 + 1 := by rw [dep, dep.depAll, dep.depAll]
      have wt1 : wt (.tuple [t]) = wt t + 1 + 3 := by rw [wt, wt.wtAll, wt.wtAll, Nat.add_zero]
      have one_le : 1 ≤ dep t := by cases t <;> simp [dep]
      refine ⟨.ref q, .tuple [t], rfl, .tup upd_same (.cons (tr.keep (Tups.of_same s)) .nil) (by show 1 ≤ 100; decide), by rw [dt1]; omega, by rw [wt1]; omega, fun H6 s6 => ?_⟩
      have s := s.trans s6
      refine ⟨_, rfl, v, t, rfl, tr.keep (Tups.of_same s), by omega, by omega, fun H7 s7 => ?_⟩
      have tl := txt_le tr
      refine ⟨_, _, rfl, rfl, ?_, _, _, rfl, rfl, ?_, rfl, _, rfl, ?_⟩
      · show 1 + (txt t).length ≤ sizeLine
        exact line1m (by omega)
      · show (("(" : Str) ++ txt t).length + 1 ≤ sizeLine
        rw [len_append]
        exact line1m (by have : (("(" : Str)).length = 1 := rfl; omega)
      · rw [txt_one]
        exact neS rfl ⟨_, _, p2, rfl, T3.same (s.trans s7), by push_cast; omega⟩
    · rintro σ H1 ⟨u2, u3, p, rfl, _, _⟩
      refine ⟨7, rfl, by show 0 ≤ sizeLine; decide, fun t0 ht0 => ⟨by show 8 ≤ sizeLine; decide, fun L hL => ⟨L, rfl, ⟨_, SqL.of upd_same⟩, fun DD hDD => ?_⟩⟩⟩
      have nLt : t0 ≠ L := ne_of_none upd_same hL
      have tz : (L2.upd (L2.upd H1 t0 (.tup [])) L (.lst (someV t0))) t0 = some (.tup []) := by rw [upd_ne nLt]; exact upd_same
      have hLL : (L2.upd (L2.upd H1 t0 (.tup [])) L (.lst (someV t0))) L = some (.lst (someV t0)) := upd_same
      change (L2.upd (L2.upd H1 t0 (.tup [])) L (.lst (someV t0))) DD = none at hDD
      change ∃ W : Nat → Nat → Hp → Prop, (∃ m, W 0 m (L2.upd (L2.upd (L2.upd H1 t0 (.tup [])) L (.lst (someV t0))) DD (.lst []))) ∧ _
      generalize L2.upd (L2.upd H1 t0 (.tup [])) L (.lst (someV t0)) = Hx at hLL tz hDD ⊢
      have tra : TrAll Hx (someV t0) someD := .cons .non (.cons (.bl true) (.cons (.bl false) (.cons (.int 0 (by decide)) (.cons (.int (-7) (by decide)) (.cons (.str "" (by decide)) (.cons (.str "'" (by decide)) (.cons (.tup tz .nil (by decide)) .nil)))))))
      refine lc_list (K := K) (a := L) (xs := someV t0) (vs := [4]) (fun i H2 => Same Hx H2 ∧ H2 DD = some (.lst (((someD.take i).map txt).map V.str))) ⟨same_new hDD _, upd_same⟩ (fun i H2 _ q => SqL.of (q.1 _ _ hLL)) ?_ ?_
      · rintro i x H2 hx ⟨s2, hD2⟩
        obtain ⟨t, ht, tr⟩ := tra.at hx
        obtain ⟨d1, d2⟩ := someD_ok ht
        have hi8 : i < 8 := (List.getElem?_eq_some_iff.mp hx).1
        refine ⟨rfl, ?_⟩
        refine tYes_go ?_
        refine ⟨_, rfl, x, t, rfl, tr.keep (Tups.of_same s2), by omega, by omega, fun H3 s3 => ?_⟩
        refine ⟨_, s3 _ _ hD2, ?_, same_fresh (Same.refl _) hDD (s2.trans s3) _, ?_⟩
        · refine small1000 ?_
          rw [List.length_map, List.length_map, List.length_take]
          omega
        · rw [upd_same, List.take_add_one, ht]
          simp
      · rintro H2 ⟨s2, hD2⟩
        change H2 DD = some (.lst ((someD.map txt).map V.str)) at hD2
        rw [some_txt] at hD2
        refine ⟨⟨_, rfl⟩, _, _, rfl, rfl, rfl, by decide +kernel, fun q hq => ?_⟩
        rw [some_split]
        have nq : DD ≠ q := ne_of_none hD2 hq
        refine ⟨.list (someT.map PyData.str), .list (someT.map PyData.str), .lst (SqL.of (by rw [upd_ne nq]; exact hD2)) (strs_dp _), .lst (SqL.of upd_same) (strs_dp _), some_shaped, some_shaped, _, rfl, ?_⟩
        rw [some_eqv]
        refine ifF rfl ?_
        refine ⟨by show 2 ≤ sizeLine; decide, fun t1 h1 => ⟨by show 2 ≤ sizeLine; decide, fun t2 h2 => ⟨by show 3 ≤ sizeLine; decide, fun t3 h3 => ?_⟩⟩⟩
        have n12 : t1 ≠ t2 := ne_of_none upd_same h2
        have at1 := same_new h3 (.tup [.str "=", .ref t1, .ref t2]) _ _ (same_new h2 (.tup [.str "value", .str "it's"]) _ _ (upd_same (a := t1) (o := .tup [.str "column", .int 1])))
        have at2 := same_new h3 (.tup [.str "=", .ref t1, .ref t2]) _ _ (upd_same (a := t2) (o := .tup [.str "value", .str "it's"]))
        refine ⟨.ref t3, .tuple [.str "=", .tuple [.str "column", .int 1], .tuple [.str "value", .str "it's"]], rfl, .tup upd_same (.cons (.str _ (by decide)) (.cons (.tup at1 (.cons (.str _ (by decide)) (.cons (.int _ (by decide)) .nil)) (by decide)) (.cons (.tup at2 (.cons (.str _ (by decide)) (.cons (.str _ (by decide)) .nil)) (by decide)) .nil))) (by show 3 ≤ 100; decide), by decide, by decide, fun H4 s4 => ?_⟩
        refine ⟨rfl, ?_⟩
        rw [last_txt, decide_eq_true rfl]
        exact k _
end Ask
namespace Ask
open PySem L2
theorem all_mk {l : PySem.W.OpenLaw} {w : World} {K : PySem.W.Frag} {h : Heap} {mg : Str → Option Value} {f1 f2 f3 f4 f5 f6 f7 f8 fa : Addr} (X : K.In h) (G : h.Ns mainGlobals mg) (hfa : mg "law" = some (.ref fa))
    {od1 an1 : Option Addr} {sl1 : Array (Option Value)} {oc1 kV1 dc1 pm1 cd1 ct1 : Value} {od2 an2 : Option Addr} {sl2 : Array (Option Value)} {oc2 kV2 dc2 pm2 cd2 ct2 : Value} {od3 an3 : Option Addr} {sl3 : Array (Option Value)} {oc3 kV3 dc3 pm3 cd3 ct3 : Value} {od4 an4 : Option Addr} {sl4 : Array (Option Value)} {oc4 kV4 dc4 pm4 cd4 ct4 : Value} {od5 an5 : Option Addr} {sl5 : Array (Option Value)} {oc5 kV5 dc5 pm5 cd5 ct5 : Value} {od6 an6 : Option Addr} {sl6 : Array (Option Value)} {oc6 kV6 dc6 pm6 cd6 ct6 : Value} {od7 an7 : Option Addr} {sl7 : Array (Option Value)} {oc7 kV7 dc7 pm7 cd7 ct7 : Value} {od8 an8 : Option Addr} {sl8 : Array (Option Value)} {oc8 kV8 dc8 pm8 cd8 ct8 : Value}
    (a1 : PySem.W.nsIn K mainGlobals "write_tree" = some (some (.ref f1))) (l1 : K.lookup f1 = some ⟨oc1, od1, .func (PySem.W.fnOf "write_tree" "write_tree" (defArgs sWrite) (defBody sWrite) (defScope sWrite) .none kV1 dc1 pm1 an1 cd1 ct1), sl1⟩) (c1 : PySem.W.codeIn K cd1 "write_tree" = true) (k1 : PySem.W.keepIn K (.ref f1) = true)
    (a2 : PySem.W.nsIn K mainGlobals "_law_begin" = some (some (.ref f2))) (l2 : K.lookup f2 = some ⟨oc2, od2, .func (PySem.W.fnOf "_law_begin" "_law_begin" (defArgs sBegin) (defBody sBegin) (defScope sBegin) .none kV2 dc2 pm2 an2 cd2 ct2), sl2⟩) (c2 : PySem.W.codeIn K cd2 "_law_begin" = true) (k2 : PySem.W.keepIn K (.ref f2) = true)
    (a3 : PySem.W.nsIn K mainGlobals "_law_draw" = some (some (.ref f3))) (l3 : K.lookup f3 = some ⟨oc3, od3, .func (PySem.W.fnOf "_law_draw" "_law_draw" (defArgs sDraw) (defBody sDraw) (defScope sDraw) .none kV3 dc3 pm3 an3 cd3 ct3), sl3⟩) (c3 : PySem.W.codeIn K cd3 "_law_draw" = true) (k3 : PySem.W.keepIn K (.ref f3) = true)
    (a4 : PySem.W.nsIn K mainGlobals "_law_pick" = some (some (.ref f4))) (l4 : K.lookup f4 = some ⟨oc4, od4, .func (PySem.W.fnOf "_law_pick" "_law_pick" (defArgs sPick) (defBody sPick) (defScope sPick) .none kV4 dc4 pm4 an4 cd4 ct4), sl4⟩) (c4 : PySem.W.codeIn K cd4 "_law_pick" = true) (k4 : PySem.W.keepIn K (.ref f4) = true)
    (a5 : PySem.W.nsIn K mainGlobals "_law_tree" = some (some (.ref f5))) (l5 : K.lookup f5 = some ⟨oc5, od5, .func (PySem.W.fnOf "_law_tree" "_law_tree" (defArgs sTree) (defBody sTree) (defScope sTree) .none kV5 dc5 pm5 an5 cd5 ct5), sl5⟩) (c5 : PySem.W.codeIn K cd5 "_law_tree" = true) (k5 : PySem.W.keepIn K (.ref f5) = true)
    (a6 : PySem.W.nsIn K mainGlobals "_law_leaf_tree" = some (some (.ref f6))) (l6 : K.lookup f6 = some ⟨oc6, od6, .func (PySem.W.fnOf "_law_leaf_tree" "_law_leaf_tree" (defArgs sLeaf) (defBody sLeaf) (defScope sLeaf) .none kV6 dc6 pm6 an6 cd6 ct6), sl6⟩) (c6 : PySem.W.codeIn K cd6 "_law_leaf_tree" = true) (k6 : PySem.W.keepIn K (.ref f6) = true)
    (a7 : PySem.W.nsIn K mainGlobals "_law_drawn_tree" = some (some (.ref f7))) (l7 : K.lookup f7 = some ⟨oc7, od7, .func (PySem.W.fnOf "_law_drawn_tree" "_law_drawn_tree" (defArgs sDrawn) (defBody sDrawn) (defScope sDrawn) .none kV7 dc7 pm7 an7 cd7 ct7), sl7⟩) (c7 : PySem.W.codeIn K cd7 "_law_drawn_tree" = true) (k7 : PySem.W.keepIn K (.ref f7) = true)
    (a8 : PySem.W.nsIn K mainGlobals "law" = some (some (.ref f8))) (l8 : K.lookup f8 = some ⟨oc8, od8, .func (PySem.W.fnOf "law" "law" (defArgs sLaw) (defBody sLaw) (defScope sLaw) .none kV8 dc8 pm8 an8 cd8 ct8), sl8⟩) (c8 : PySem.W.codeIn K cd8 "law" = true) (k8 : PySem.W.keepIn K (.ref f8) = true)
    (z0 : PySem.W.nsIn K mainGlobals "len" = some none)    (z1 : PySem.W.nsIn K mainGlobals "int" = some none)    (z2 : PySem.W.nsIn K mainGlobals "str" = some none)    (z3 : PySem.W.nsIn K mainGlobals "bool" = some none)    (z4 : PySem.W.nsIn K mainGlobals "isinstance" = some none)    (z5 : PySem.W.nsIn K mainGlobals "range" = some none)    (z6 : PySem.W.nsIn K mainGlobals "tuple" = some none)
 :
    ∃ fd : FuncData, (∀ (s : Shared) (v : Value), BindsTo s fd ⟨[v], []⟩ [("_law_script", v)]) ∧ ∀ base : Heap, K.In base → base.Ns mainGlobals mg → FnOk l.prog w K mg base CX0 9 fa fd ["_law_script"] (spLaw K) := by
  have e := hfa.symm.trans (PySem.W.mg_of X G a8)
  cases e
  have B : Blt mg := ⟨PySem.W.mg_none_of X G z0, PySem.W.mg_none_of X G z1, PySem.W.mg_none_of X G z2, PySem.W.mg_none_of X G z3, PySem.W.mg_none_of X G z4, PySem.W.mg_none_of X G z5, PySem.W.mg_none_of X G z6⟩
  have F1 := fun_mk (st := sWrite) l1 c1 k1
  have b1 := F1.binds (ps := ["tree"]) fun _ _ _ _ _ _ us hl => match us, hl with | [_], _ => rfl
  have F2 := fun_mk (st := sBegin) l2 c2 k2
  have b2 := F2.binds (ps := ["_law_script"]) fun _ _ _ _ _ _ us hl => match us, hl with | [_], _ => rfl
  have F3 := fun_mk (st := sDraw) l3 c3 k3
  have b3 := F3.binds (ps := ["_law_tape", "_law_many"]) fun _ _ _ _ _ _ us hl => match us, hl with | [_, _], _ => rfl
  have F4 := fun_mk (st := sPick) l4 c4 k4
  have b4 := F4.binds (ps := ["_law_tape", "_law_items"]) fun _ _ _ _ _ _ us hl => match us, hl with | [_, _], _ => rfl
  have F5 := fun_mk (st := sTree) l5 c5 k5
  have b5 := F5.binds (ps := ["_law_tree_here"]) fun _ _ _ _ _ _ us hl => match us, hl with | [_], _ => rfl
  have F6 := fun_mk (st := sLeaf) l6 c6 k6
  have b6 := F6.binds (ps := ["_law_tape"]) fun _ _ _ _ _ _ us hl => match us, hl with | [_], _ => rfl
  have F7 := fun_mk (st := sDrawn) l7 c7 k7
  have b7 := F7.binds (ps := ["_law_tape", "_law_deep"]) fun _ _ _ _ _ _ us hl => match us, hl with | [_, _], _ => rfl
  have F8 := fun_mk (st := sLaw) l8 c8 k8
  refine ⟨PySem.W.fnOf "law" "law" (defArgs sLaw) (defBody sLaw) (defScope sLaw) .none kV8 dc8 pm8 an8 cd8 ct8, fun s v => .of_eq rfl, fun base _ _ => ?_⟩
  have D1 : Dn l.prog w K mg base 8 "write_tree" [wPar] (spTree 8) := ⟨f1, _, PySem.W.mg_of X G a1, k1, b1, ok_write F1 B (PySem.W.mg_of X G a1) k1 b1 8⟩
  have D2 : Dn l.prog w K mg base 1 "_law_begin" ["_law_script"] (spBegin K) := ⟨f2, _, PySem.W.mg_of X G a2, k2, b2, ok_begin F2⟩
  have D3 : Dn l.prog w K mg base 1 "_law_draw" ["_law_tape", "_law_many"] spDraw := ⟨f3, _, PySem.W.mg_of X G a3, k3, b3, ok_draw F3 B⟩
  have D4 : Dn l.prog w K mg base 2 "_law_pick" ["_law_tape", "_law_items"] (spPick K) := ⟨f4, _, PySem.W.mg_of X G a4, k4, b4, ok_pick F4 B D3⟩
  have D5 : Dn l.prog w K mg base 8 "_law_tree" ["_law_tree_here"] (spTree 8) := ⟨f5, _, PySem.W.mg_of X G a5, k5, b5, ok_tree F5 B (PySem.W.mg_of X G a5) k5 b5 8⟩
  have D6 : Dn l.prog w K mg base 3 "_law_leaf_tree" ["_law_tape"] spLeaf := ⟨f6, _, PySem.W.mg_of X G a6, k6, b6, ok_law_leaf_tree F6 B D3 D4⟩
  have D7 : Dn l.prog w K mg base 8 "_law_drawn_tree" ["_law_tape", "_law_deep"] (spDrawn 5) := ⟨f7, _, PySem.W.mg_of X G a7, k7, b7, ok_drawn F7 B D3 D6 (PySem.W.mg_of X G a7) k7 b7 5⟩
  exact ok_law F8 B ⟨D1, D2, D3, D5, D7⟩

theorem walk {l : PySem.W.OpenLaw} {q : Program} {loose : List Str} {XP : (Str → Option Value) → Heap → Prop} {YP : World → Heap → Prop} {d : DefRec} {K : Params → PySem.W.Frag} (hn : l.most = some 63) (hdf : d.params.defaults = [])
    (hY : ∀ (w : World) (h : Heap), YP w h → (K w.params).In h)
    (F : ∀ (w : World) (mg : Str → Option Value) (fa : Addr) (h : Heap), (K w.params).In h → h.Ns mainGlobals mg → mg d.name = some (.ref fa) →
      ∃ fd : FuncData, (∀ (s : Shared) (u : Value), BindsTo s fd ⟨[u], []⟩ [("_law_script", u)]) ∧ ∀ base : Heap, (K w.params).In base → base.Ns mainGlobals mg → FnOk l.prog w (K w.params) mg base CX0 9 fa fd ["_law_script"] (spLaw (K w.params))) :
    PySem.W.WalkO q loose XP YP l.row.toRowW d [] (fun f vs => PySem.call f vs) :=
  L2.walk_of (n := 63) (k := 9) (x := "_law_script") (CX := fun _ => CX0) (sp := fun w => spLaw (K w.params)) hn (by decide) hdf ⟨rfl, by decide, by decide⟩ hY F (fun _ _ a ns hl _ hS => ⟨a, ns, rfl, hS, hl, fun _ => rfl⟩) fun _ _ _ _ _ z => z
end Ask
open PySem PySem.W PyProof.Rows
set_option maxRecDepth 100000 in
set_option maxHeartbeats 0 in
theorem PySem.Challenge.cw_innerasks_k90_trees_written_holds : PySem.Challenge.rw_innerasks_k90_trees_written.Holds := by
  w_on; o_law; k_head; (case hw => w_witness2)
  k_fill
  refine Ask.walk (l := PySem.Challenge.rw_innerasks_k90_trees_written) rfl rfl (fun w h Y => PySem.W.kIn_of Y) ?F
  case F =>
    intro w mg fa h KX G hmg
    refine' Ask.all_mk KX G hmg ?a1 ?l1 ?c1 ?k1 ?a2 ?l2 ?c2 ?k2 ?a3 ?l3 ?c3 ?k3 ?a4 ?l4 ?c4 ?k4 ?a5 ?l5 ?c5 ?k5 ?a6 ?l6 ?c6 ?k6 ?a7 ?l7 ?c7 ?k7 ?a8 ?l8 ?c8 ?k8 ?z0 ?z1 ?z2 ?z3 ?z4 ?z5 ?z6
    (case a1 => k_is)
    (case l1 => k_is)
    (case c1 => k_is)
    (case k1 => k_is)
    (case a2 => k_is)
    (case l2 => k_is)
    (case c2 => k_is)
    (case k2 => k_is)
    (case a3 => k_is)
    (case l3 => k_is)
    (case c3 => k_is)
    (case k3 => k_is)
    (case a4 => k_is)
    (case l4 => k_is)
    (case c4 => k_is)
    (case k4 => k_is)
    (case a5 => k_is)
    (case l5 => k_is)
    (case c5 => k_is)
    (case k5 => k_is)
    (case a6 => k_is)
    (case l6 => k_is)
    (case c6 => k_is)
    (case k6 => k_is)
    (case a7 => k_is)
    (case l7 => k_is)
    (case c7 => k_is)
    (case k7 => k_is)
    (case a8 => k_is)
    (case l8 => k_is)
    (case c8 => k_is)
    (case k8 => k_is)
    (case z0 => k_is)
    (case z1 => k_is)
    (case z2 => k_is)
    (case z3 => k_is)
    (case z4 => k_is)
    (case z5 => k_is)
    (case z6 => k_is)
