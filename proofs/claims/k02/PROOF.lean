import PyProof.Rows.All
import Wide.All
import OpenK.AllK
import Wide.FinOn
import HandS.ForMost
import HandS.Flow
import HandS.Small
import HandS.IsInst
import HandS.RaiseMore
import HandS.Walk
import HandS.FStr
import HandS.Style
import HandS.Codes
import PySem.Challenge.RW_innerasks_k02_values_and_names
set_option Elab.async false
set_option maxRecDepth 100000
set_option maxHeartbeats 4000000
set_option linter.all false
set_option linter.all false
namespace Ask
open PySem L2
def top (i : Nat) : Stmt := PySem.Challenge.pw_innerasks_k02_values_and_names.main.body.getD i (.Pass ⟨0, 0, 0, 0⟩)
abbrev sWhole : Stmt := top 3
abbrev sText : Stmt := top 4
abbrev sValue : Stmt := top 5
abbrev sRow : Stmt := top 6
abbrev sKind : Stmt := top 7
abbrev sIsName : Stmt := top 11
abbrev sBegin : Stmt := top 13
abbrev sDraw : Stmt := top 14
abbrev sPick : Stmt := top 15
abbrev sOdd : Stmt := top 16
abbrev sKeys : Stmt := top 17
abbrev sTxt : Stmt := top 18
abbrev sHere : Stmt := top 19
abbrev sLaw : Stmt := top 20
/-! ### the tape -/
abbrev kCells : Key := Sum.inr "cells"
abbrev kPlace : Key := Sum.inr "place"
abbrev kLeft : Key := Sum.inr "left"
theorem ne_cp : ¬ (kCells = kPlace) := by decide +kernel
theorem ne_cl : ¬ (kCells = kLeft) := by decide +kernel
theorem ne_pl : ¬ (kPlace = kLeft) := by decide +kernel
theorem ne_pc : ¬ (kPlace = kCells) := by decide +kernel
theorem ne_lc : ¬ (kLeft = kCells) := by decide +kernel
theorem ne_lp : ¬ (kLeft = kPlace) := by decide +kernel
def tapeD (c : Addr) (p l : Int) : List (Key × V) := [(kCells, .ref c), (kPlace, .int p), (kLeft, .int l)]
theorem tape_cells (c : Addr) (p l : Int) : valV (tapeD c p l) kCells = some (.ref c) := by
  unfold tapeD; rw [valV_pos rfl]
theorem tape_place (c : Addr) (p l : Int) : valV (tapeD c p l) kPlace = some (.int p) := by
  unfold tapeD; rw [valV_neg ne_cp, valV_pos rfl]
theorem tape_left (c : Addr) (p l : Int) : valV (tapeD c p l) kLeft = some (.int l) := by
  unfold tapeD; rw [valV_neg ne_cl, valV_neg ne_pl, valV_pos rfl]
theorem tape_put_place (c : Addr) (p l q : Int) : putK (tapeD c p l) kPlace (.int q) = tapeD c q l := by
  unfold putK tapeD
  rw [if_pos (by simp)]
  show [if kCells = kPlace then (kCells, V.int q) else (kCells, V.ref c), if kPlace = kPlace then (kPlace, V.int q) else (kPlace, V.int p), if kLeft = kPlace then (kLeft, V.int q) else (kLeft, V.int l)] = _
  rw [if_neg ne_cp, if_pos rfl, if_neg ne_lp]
theorem tape_put_left (c : Addr) (p l q : Int) : putK (tapeD c p l) kLeft (.int q) = tapeD c p q := by
  unfold putK tapeD
  rw [if_pos (by simp)]
  show [if kCells = kLeft then (kCells, V.int q) else (kCells, V.ref c), if kPlace = kLeft then (kPlace, V.int q) else (kPlace, V.int p), if kLeft = kLeft then (kLeft, V.int q) else (kLeft, V.int l)] = _
  rw [if_neg ne_cl, if_neg ne_pl, if_pos rfl]
/-- a tape at d, p draws of cells done -/
def Tape (H : Hp) (d : Addr) (p : Int) : Prop :=
  ∃ (c : Addr) (ns : List Int) (l : Int), H d = some (.dK (tapeD c p l)) ∧ H c = some (.lst (ns.map V.int)) ∧ ns ≠ [] ∧ 0 ≤ l ∧ 0 ≤ p
/-- all that was tracked is as it was, but for d, whose cells are the same -/
structure Off (H H' : Hp) (d : Addr) : Prop where
  keep : ∀ b o, H b = some o → b ≠ d → H' b = some o
  cell : ∀ kvs : List (Key × V), H d = some (.dK kvs) → ∃ kvs' : List (Key × V), H' d = some (.dK kvs') ∧ valV kvs' kCells = valV kvs kCells
instance {H H' : Hp} {d : Addr} : CoeFun (Off H H' d) (fun _ => ∀ b o, H b = some o → b ≠ d → H' b = some o) := ⟨Off.keep⟩
theorem Off.refl (H : Hp) (d : Addr) : Off H H d := ⟨fun _ _ h _ => h, fun kvs h => ⟨kvs, h, rfl⟩⟩
theorem Off.trans {H H1 H2 : Hp} {d : Addr} (a : Off H H1 d) (b : Off H1 H2 d) : Off H H2 d := ⟨fun c o h n => b c o (a c o h n) n, fun kvs h => by
  obtain ⟨k1, h1, e1⟩ := a.cell kvs h
  obtain ⟨k2, h2, e2⟩ := b.cell k1 h1
  exact ⟨k2, h2, e2.trans e1⟩⟩
theorem Off.of_same {H H1 : Hp} {d : Addr} (a : Same H H1) : Off H H1 d := ⟨fun c u h _ => a c u h, fun kvs h => ⟨kvs, a _ _ h, rfl⟩⟩
theorem Off.new {H H1 : Hp} {d p : Addr} (a : Off H H1 d) (hp : H1 p = none) (o : HO) : Off H (L2.upd H1 p o) d := a.trans (.of_same fun b u e => by rw [upd_ne (ne_of_none e hp)]; exact e)
theorem Tape.new {H : Hp} {d p : Addr} {i : Int} (t : Tape H d i) (hp : H p = none) (o : HO) : Tape (L2.upd H p o) d i := by
  obtain ⟨c, ns, l, h1, h2, h3, h4, h5⟩ := t
  exact ⟨c, ns, l, by rw [upd_ne (ne_of_none h1 hp)]; exact h1, by rw [upd_ne (ne_of_none h2 hp)]; exact h2, h3, h4, h5⟩
theorem Tape.same {H H1 : Hp} {d : Addr} {i : Int} (t : Tape H d i) (a : Same H H1) : Tape H1 d i := by
  obtain ⟨c, ns, l, h1, h2, h3, h4, h5⟩ := t
  exact ⟨c, ns, l, a _ _ h1, a _ _ h2, h3, h4, h5⟩
theorem Off.fresh {H H1 : Hp} {d D : Addr} (a : Off H H1 d) (hD : H D = none) (n : d ≠ D) (u : HO) : Off H (L2.upd H1 D u) d :=
  ⟨fun b o e nb => by rw [upd_ne (ne_of_none e hD)]; exact a b o e nb, fun kvs e => by
    obtain ⟨k1, h1, e1⟩ := a.cell kvs e
    exact ⟨k1, by rw [upd_ne n]; exact h1, e1⟩⟩
/-- a list that was made since, changed -/
theorem Tape.fresh {H0 H : Hp} {d D : Addr} {p0 p : Int} (T : Tape H d p) (T0 : Tape H0 d p0) (o : Off H0 H d) (hD : H0 D = none) (u : HO) : Tape (L2.upd H D u) d p := by
  obtain ⟨c0, ns0, l0, u1, u2, u3, u4, u5⟩ := T0
  obtain ⟨c, ns, l, h1, h2, h3, h4, h5⟩ := T
  obtain ⟨kvs, e1, e2⟩ := o.cell _ u1
  rw [h1] at e1
  have e3 : tapeD c p l = kvs := HO.dK.inj (Option.some.inj e1)
  rw [← e3, tape_cells, tape_cells] at e2
  have e4 : c = c0 := V.ref.inj (Option.some.inj e2)
  subst e4
  exact ⟨c, ns, l, by rw [upd_ne (ne_of_none u1 hD)]; exact h1, by rw [upd_ne (ne_of_none u2 hD)]; exact h2, h3, h4, h5⟩
theorem Tape.at {H : Hp} {d : Addr} {i : Int} (t : Tape H d i) : ∃ kvs, H d = some (.dK kvs) := let ⟨_, _, _, h, _⟩ := t; ⟨_, h⟩

/-! ### a def of the text, with all that a caller wants of it -/
structure Dn (P : Program) (w : World) (K : PySem.W.Frag) (mg : Str → Option Value) (base : Heap) (k : Nat) (x : Str) (ps : List Str) (sp : Sp) : Prop where
  ex : ∃ (f : Addr) (fd : FuncData), mg x = some (.ref f) ∧ PySem.W.keepIn K (.ref f) = true ∧ Binds K fd ps [] ∧ FnOk P w K mg base CX0 k f fd ps sp
theorem pe_dn {X : Cx} {k : Nat} {x : Str} {ps : List Str} {sp : Sp} {e : Expr} {es : List Expr} {t : TA} {p pos : Pos} (D : Dn X.prog X.w X.K X.mg X.base k x ps sp) (hr : Room k X.A) (hg : Gl X x) (ha : PA X (e :: es) t) (hdb : (x == ("__debug__" : Str)) = false := by decide)
    (he : starEach (e :: es) X.env = (false, eval e X.env) :: starEach es X.env := by rfl) (hpl : (backTo pos (starEach es X.env)).any (·.1) = false := by rfl) : PE X (.Call (.Name x p) (e :: es) [] pos) (tCall sp [] E0 t) := by
  obtain ⟨f, fd, hm, kp, hb, F⟩ := D.ex
  exact pe_call F hr hg hm kp hb .nil pass0 ha hdb he hpl
theorem pe_dn0 {X : Cx} {k : Nat} {x : Str} {ps : List Str} {sp : Sp} {p pos : Pos} (D : Dn X.prog X.w X.K X.mg X.base k x ps sp) (hr : Room k X.A) (hg : Gl X x) (hdb : (x == ("__debug__" : Str)) = false := by decide) : PE X (.Call (.Name x p) [] [] pos) (tCall sp [] E0 tNil) := by
  obtain ⟨f, fd, hm, kp, hb, F⟩ := D.ex
  exact pe_call0 F hr hg hm kp hb .nil pass0 hdb
/-- the built-ins that the module leaves as they are -/
structure Blt (mg : Str → Option Value) : Prop where
  len : mg "len" = none
  int : mg "int" = none
  str : mg "str" = none
  isi : mg "isinstance" = none
  all : mg "all" = none
  range : mg "range" = none
  repr : mg "repr" = none
  ord : mg "ord" = none
  bool : mg "bool" = none
  tuple : mg "tuple" = none
  list : mg "list" = none

section
variable {P : Program} {w : World} {K : PySem.W.Frag} {mg : Str → Option Value} {base : Heap}
theorem boot_int : bootBuiltins ("int" : Str) = some (.type "int") := by decide +kernel
/-! ### _law_draw -/
def spDraw : Sp := fun vs H Q _ => ∃ (d : Addr) (m p : Int), vs = [.ref d, .int m] ∧ 0 < m ∧ m < 1073741824 ∧ Tape H d p ∧ p < 1000000000 ∧
  ∀ (n p' : Int) (H' : Hp), 0 ≤ n → n < m → Tape H' d p' → p' ≤ p + 1 → Off H H' d → Q (.int n) H'
abbrev nD : List Str := ["_law_tape", "_law_many", "_law_place", "_law_size", "_law_cell", "_law_found"]
theorem scD : FnScope nD ["_law_tape", "_law_many"] (defScope sDraw) := ⟨rfl, rfl, rfl, by decide +kernel, rfl, by decide +kernel, by decide +kernel⟩
theorem dg_left {H : Hp} {d c : Addr} {p l : Int} (h : H d = some (.dK (tapeD c p l))) : DGet H d (.str "left") (some (.int l)) := .inl ⟨_, kLeft, .inl h, rfl, (tape_left c p l).symm⟩
theorem dg_place {H : Hp} {d c : Addr} {p l : Int} (h : H d = some (.dK (tapeD c p l))) : DGet H d (.str "place") (some (.int p)) := .inl ⟨_, kPlace, .inl h, rfl, (tape_place c p l).symm⟩
theorem dg_cells {H : Hp} {d c : Addr} {p l : Int} (h : H d = some (.dK (tapeD c p l))) : DGet H d (.str "cells") (some (.ref c)) := .inl ⟨_, kCells, .inl h, rfl, (tape_cells c p l).symm⟩
theorem dp_left {H : Hp} {d c : Addr} {p l q : Int} (h : H d = some (.dK (tapeD c p l))) : DPut H d (.str "left") (.int q) (L2.upd H d (.dK (tapeD c p q))) :=
  .inl ⟨_, kLeft, h, rfl, small1000 (show 3 ≤ 1000 by decide), by rw [tape_put_left]⟩
theorem dp_place {H : Hp} {d c : Addr} {p l q : Int} (h : H d = some (.dK (tapeD c p l))) : DPut H d (.str "place") (.int q) (L2.upd H d (.dK (tapeD c q l))) :=
  .inl ⟨_, kPlace, h, rfl, small1000 (show 3 ≤ 1000 by decide), by rw [tape_put_place]⟩
theorem Off.put {H H1 : Hp} {d c : Addr} {p l : Int} (a : Off H H1 d) (h : H1 d = some (.dK (tapeD c p l))) (p' l' : Int) : Off H (L2.upd H1 d (.dK (tapeD c p' l'))) d := a.trans ⟨fun b u e n => by rw [upd_ne n]; exact e, fun kvs e => by
  rw [h] at e
  have e3 : tapeD c p l = kvs := HO.dK.inj (Option.some.inj e)
  exact ⟨_, upd_same, by rw [← e3, tape_cells, tape_cells]⟩⟩
theorem two_line : (2 : Nat) ≤ sizeLine := by decide
theorem ok_draw {f : Addr} {fd : FuncData} (F : Fun K "_law_draw" "_law_draw" sDraw f fd) (B : Blt mg) : FnOk P w K mg base CX0 1 f fd ["_law_tape", "_law_many"] spDraw := by
  refine F.ok scD (fun vs H Q E h => ?_) (fun cdv A outer s H vs Q E hr h => ?_)
  · obtain ⟨d, m, p, rfl, _⟩ := h
    rfl
  · obtain ⟨d, m, p, rfl, m0, m1, T, p1, k⟩ := h
    have hu := hu_of hr
    obtain ⟨c, ns, l, hd, hc, hne, l0, p0⟩ := T
    have hcd : c ≠ d := (ne_of hd hc (by intro z; cases z)).symm
    obtain ⟨tB, hB, qB⟩ : ∃ tB, PSs (cxOf CX0 P w K mg base nD "_law_draw" (defScope sDraw) f cdv A outer s H E).nox ((defBody sDraw).drop 1) tB ∧ ∀ (v2 v3 v4 : Option V) (p' l' : Int) (H1 : Hp),
        H1 d = some (.dK (tapeD c p' l')) → 0 ≤ l' → 0 ≤ p' → p' ≤ p + 1 → Off H H1 d → tB { nx := fun _ H' => Q .non H', rt := Q } [some (.ref d), some (.int m), v2, v3, v4, none] H1 := by
      refine ⟨_, pss_cons (ps_asg (pe_tup (pa_cons (pe_op op_mod (pe_callTy call_int1 (by rfl) B.int boot_int (pa_cons (pe_dget hu (pv 0) pe_str (fun _ _ => rfl)) pa_nil)) (pv 1)) (pa_cons (pe_op op_fdiv (pe_dget hu (pv 0) pe_str (fun _ _ => rfl)) (pv 1)) pa_nil)))
            (pg_tup rfl (pgs_cons (pg_name (i := 5) scD.nd rfl (.inl rfl)) (pgs_cons (pg_sub (pv 0) pe_str (set_dict hu)) pgs_nil))))
        (pss_one (ps_ret (pv 5))), fun v2 v3 v4 p' l' H1 h1 l1 q0 q1 of => ?_⟩
      refine ⟨_, rfl, d, _, rfl, dg_left h1, .inl ⟨_, rfl, _, rfl, _, _, rfl, rfl, m0, _, rfl, d, _, rfl, dg_left h1, _, rfl, _, _, rfl, rfl, ⟨m0, m1⟩, two_line, fun t ht => ?_⟩⟩
      have htd : d ≠ t := ne_of_none h1 ht
      refine ⟨t, _, rfl, SqT.of upd_same, rfl, _, _, rfl, _, _, rfl, _, rfl, d, _, rfl, dp_left (by rw [upd_ne htd]; exact h1), rfl, _, rfl, ?_⟩
      have o2 : Off H (L2.upd (L2.upd H1 t (.tup [.int (l' % m), .int (l' / m)])) d (.dK (tapeD c p' (l' / m)))) d := (of.new ht _).put (by rw [upd_ne htd]; exact h1) _ _
      exact k _ p' _ (Int.emod_nonneg _ (by omega)) (Int.emod_lt_of_pos _ m0) ⟨c, ns, l' / m, upd_same, o2 _ _ hc hcd, hne, Int.ediv_nonneg l1 (by omega), q0⟩ q1 o2
    refine ⟨_, pss_cons (ps_if (pt_cmpR op_lt (pe_dget hu (pv 0) pe_str (fun _ _ => rfl)) (pv 1) (nomark _))
        (pss_cons (ps_par (i := 2) (j := 3) rfl scD.nd rfl rfl (by decide) rfl rfl (pa_cons (pe_dget hu (pv 0) pe_str (fun _ _ => rfl)) (pa_cons (pe_callB call_len_seq (by rfl) B.len PySem.boot_len (pa_cons (pe_dget hu (pv 0) pe_str (fun _ _ => rfl)) pa_nil)) pa_nil)) (by rfl))
        (pss_cons (ps_asg (pe_tup (pa_cons (pe_ix ix_list (pe_dget hu (pv 0) pe_str (fun _ _ => rfl)) (pe_op op_mod (pe_callTy call_int1 (by rfl) B.int boot_int (pa_cons (pv 2) pa_nil)) (pv 3)) (fun _ _ => rfl)) (pa_cons (pe_op op_add (pv 2) pe_int) pa_nil)))
            (pg_tup rfl (pgs_cons (pg_name (i := 4) scD.nd rfl (.inl rfl)) (pgs_cons (pg_sub (pv 0) pe_str (set_dict hu)) pgs_nil))))
        (pss_cons (ps_dput hu (pv 0) pe_str (pe_op op_mod (pe_callTy call_int1 (by rfl) B.int boot_int (pa_cons (pe_op op_pow (pe_op op_add (pe_op op_add (pe_op op_mod (pe_callTy call_int1 (by rfl) B.int boot_int (pa_cons (pv 4) pa_nil)) pe_int) (pe_op op_mul pe_int (pv 2))) pe_int) pe_int) pa_nil)) (pe_op op_add (pe_op op_pow pe_int pe_int) pe_int)) rfl)
        (pss_one (ps_if (pw_and (pt_cmpR op_ge (pv 4) (pe_op op_pow pe_int pe_int) (nomark _)) (pw_and1 (pt_cmpR op_lt (pv 2) (pv 3) (nomark _)))).pt
          (pss_one (ps_dput hu (pv 0) pe_str (pe_op op_sub (pv 4) (pe_op op_pow pe_int pe_int)) rfl)) pss_nil))))) pss_nil) hB, ?_⟩
    refine ⟨_, rfl, d, _, rfl, dg_left hd, _, rfl, _, _, rfl, rfl, _, rfl, ite2 (fun _ => ?_) (fun _ => qB _ _ _ p l H hd l0 p0 (by omega) (.refl _ _))⟩
    have hlen : 0 < ns.length := List.length_pos_iff.mpr hne
    have hml : (ns.map V.int).length = ns.length := List.length_map _
    obtain ⟨z, hz⟩ : ∃ z : Int, atI (ns.map V.int) (p % (ns.map V.int).length) = some (.int z) := by
      have h1 : 0 ≤ p % (ns.map V.int).length := Int.emod_nonneg _ (by omega)
      have h2 : p % (ns.map V.int).length < (ns.map V.int).length := Int.emod_lt_of_pos _ (by omega)
      have h3 : (p % (ns.map V.int).length).toNat < ns.length := by omega
      exact ⟨ns[(p % (ns.map V.int).length).toNat], at_of (j := (p % (ns.map V.int).length).toNat) (by omega) (by rw [List.getElem?_map, List.getElem?_eq_getElem h3]; rfl)⟩
    -- place, size; cell, tape['place']
    refine ⟨_, rfl, d, _, rfl, dg_place hd, _, rfl, d, _, rfl, dg_cells hd, c, _, rfl, .inl (SqL.of hc), _, _, rfl, ?_⟩
    refine ⟨_, rfl, d, _, rfl, dg_cells hd, _, rfl, .inl ⟨_, rfl, _, rfl, _, _, rfl, rfl, (by omega), c, _, _, _, rfl, rfl, SqL.of hc, hz, _, rfl, _, _, rfl, rfl, two_line, fun t ht => ?_⟩⟩
    have htd : d ≠ t := ne_of_none hd ht
    refine ⟨t, _, rfl, SqT.of upd_same, rfl, _, _, rfl, _, _, rfl, _, rfl, d, _, rfl, dp_place (by rw [upd_ne htd]; exact hd), rfl, ?_⟩
    -- tape['left']
    have e1 := Int.emod_nonneg z (show (2147483629 : Int) ≠ 0 by decide)
    have e2 := Int.emod_lt_of_pos z (show (0 : Int) < 2147483629 by decide)
    refine ⟨_, rfl, .inl ⟨_, rfl, _, _, rfl, rfl, (by show (0 : Int) < 2147483629; decide), _, rfl, _, _, rfl, rfl, .inl ⟨by decide, by decide⟩, _, _, rfl, rfl, _, _, rfl, rfl, _, _, rfl, rfl, ⟨by decide, by decide, by omega⟩, .inl ⟨_, rfl, _, _, rfl, rfl, ⟨by decide, by decide, by decide⟩, _, _, rfl, rfl, _, _, rfl, rfl, (by show (0 : Int) < 10 ^ (50 : Int).toNat + 57; decide), _, rfl, d, _, rfl, dp_left upd_same, ?_⟩⟩⟩
    rw [upd_upd]
    have l2 : ∀ x : Int, 0 ≤ x % (10 ^ (50 : Int).toNat + 57) := fun x => Int.emod_nonneg _ (by decide)
    have of : ∀ q, Off H (L2.upd (L2.upd H t (.tup [.int z, .int (p + 1)])) d (.dK (tapeD c (p + 1) q))) d := fun q => ((Off.refl H d).new ht _).put (by rw [upd_ne htd]; exact hd) _ _
    refine ⟨_, rfl, _, _, rfl, rfl, ⟨by decide, by decide, by decide⟩, _, _, rfl, rfl, _, rfl, ite2 (fun hz18 => ?_) (fun _ => ?_)⟩
    · refine ⟨_, rfl, _, rfl, _, _, rfl, rfl, _, rfl, ite2 (fun _ => ?_) (fun _ => ?_)⟩
      · have hz18 := of_decide_eq_true hz18
        refine ⟨_, rfl, _, _, rfl, rfl, ⟨by decide, by decide, by decide⟩, _, _, rfl, rfl, _, rfl, d, _, rfl, dp_left upd_same, ?_⟩
        rw [upd_upd]
        exact qB _ _ _ (p + 1) _ _ upd_same (by omega) (by omega) (by omega) (of _)
      · exact qB _ _ _ (p + 1) _ _ upd_same (l2 _) (by omega) (by omega) (of _)
    · exact qB _ _ _ (p + 1) _ _ upd_same (l2 _) (by omega) (by omega) (of _)
end
end Ask
namespace Ask
open PySem L2
section
variable {P : Program} {w : World} {K : PySem.W.Frag} {mg : Str → Option Value} {base : Heap}
/-! ### _law_begin -/
def spBegin (K : PySem.W.Frag) : Sp := fun vs H Q _ => ∃ (a : Addr) (ns : List Int), vs = [.ref a] ∧ SqL K H a (ns.map V.int) ∧ ∀ (d : Addr) (H' : Hp), H d = none → Tape H' d 0 → Same H H' → Q (.ref d) H'
abbrev nBg : List Str := ["_law_script"]
theorem scBg : FnScope nBg ["_law_script"] (defScope sBegin) := ⟨rfl, rfl, rfl, by decide +kernel, rfl, by decide +kernel, by decide +kernel⟩
theorem merge_tape (c : Addr) (p l : Int) : mergeK [] (tapeD c p l) = tapeD c p l := by
  have e1 : putK ([] : List (Key × V)) kCells (.ref c) = [(kCells, .ref c)] := putK_new _ rfl
  have e2 : putK [(kCells, V.ref c)] kPlace (.int p) = [(kCells, .ref c), (kPlace, .int p)] := putK_new _ (by rw [valV_neg ne_cp, valV_nil])
  have e3 : putK [(kCells, V.ref c), (kPlace, V.int p)] kLeft (.int l) = tapeD c p l := putK_new _ (by rw [valV_neg ne_cl, valV_neg ne_pl, valV_nil])
  show putK (putK (putK ([] : List (Key × V)) kCells (.ref c)) kPlace (.int p)) kLeft (.int l) = _
  rw [e1, e2, e3]
theorem cut_ints (ns : List Int) (lo hi : Option Int) : ∃ ms : List Int, cutV (ns.map V.int) lo hi = ms.map V.int := by
  unfold cutV
  exact ⟨(ns.drop _).take _, by rw [List.map_take, List.map_drop]⟩
theorem ok_begin {f : Addr} {fd : FuncData} (F : Fun K "_law_begin" "_law_begin" sBegin f fd) : FnOk P w K mg base CX0 1 f fd ["_law_script"] (spBegin K) := by
  refine F.ok scBg (fun vs H Q E h => ?_) (fun cdv A outer s H vs Q E hr h => ?_)
  · obtain ⟨a, ns, rfl, _⟩ := h
    rfl
  · obtain ⟨a, ns, rfl, hs, k⟩ := h
    refine ⟨_, pss_one (ps_ret (pe_disp (pps_cons pe_str (pe_orT (pe_slice sl_list (pv 0) po_none (po_some pe_int)) (pe_one (pe_lst (pa_cons pe_int pa_nil)))) (pps_cons pe_str pe_int (pps_cons pe_str pe_int pps_nil))) rfl rfl (by intro z; cases z) (by decide))), ?_⟩
    intro d hd
    have s1 : Same H (L2.upd H d (.dK [])) := fun b o e => by rw [upd_ne (ne_of_none e hd)]; exact e
    refine ⟨_, rfl, _, rfl, a, _, rfl, s1.seq hs, fun c hc => ?_⟩
    obtain ⟨ms, em⟩ := cut_ints ns none (some 63)
    have ncd : d ≠ c := ne_of_none upd_same hc
    have s2 : ∀ o, Same H (L2.upd (L2.upd H d (.dK [])) c o) := fun o b u e => by rw [upd_ne (ne_of_none (s1 _ _ e) hc)]; exact s1 _ _ e
    have fin : ∀ (c : Addr) (ms : List Int) (H1 : Hp), ms ≠ [] → Same H H1 → H1 d = some (.dK []) → H1 c = some (.lst (ms.map V.int)) → c ≠ d → Q (.ref d) (L2.upd H1 d (.dK (mergeK [] (tapeD c 0 0)))) := fun c ms H1 hm hs1 h1 h2 hn => by
      rw [merge_tape]
      refine k d _ hd ⟨c, ms, 0, upd_same, by rw [upd_ne hn]; exact h2, hm, by omega, by omega⟩ fun b u e => ?_
      rw [upd_ne (ne_of_none e hd)]
      exact hs1 _ _ e
    rw [em]
    refine ⟨!(ms.map V.int).isEmpty, .inl ⟨_, SqL.of upd_same, rfl⟩, ?_⟩
    cases ms with
    | nil =>
      refine iteF ⟨by show 1 ≤ sizeLine; decide, fun c2 hc2 => ?_⟩
      have n2 : d ≠ c2 := ne_of_none (by rw [upd_ne ncd]; exact upd_same) hc2
      refine ⟨by rw [upd_ne n2, upd_ne ncd]; exact upd_same, tapeD c2 0 0, rfl, by show 3 ≤ 15; decide, ?_⟩
      exact fin c2 [0] _ (by intro z; cases z) (fun b u e => by rw [upd_ne (ne_of_none (s2 _ _ _ e) hc2)]; exact s2 _ _ _ e) (by rw [upd_ne n2, upd_ne ncd]; exact upd_same) upd_same n2.symm
    | cons m ms =>
      refine iteT ?_
      refine ⟨by rw [upd_ne ncd]; exact upd_same, tapeD c 0 0, rfl, by show 3 ≤ 15; decide, ?_⟩
      exact fin c (m :: ms) _ (by intro z; cases z) (s2 _) (by rw [upd_ne ncd]; exact upd_same) upd_same ncd.symm
/-! ### _law_pick -/
/-- v is a list, a tuple or a text with the items xs -/
def Seq3 (K : PySem.W.Frag) (H : Hp) (v : V) (xs : List V) : Prop :=
  (∃ a, v = .ref a ∧ SqL K H a xs) ∨ (∃ a, v = .ref a ∧ SqT K H a xs) ∨ ∃ z : Str, v = .str z ∧ z.length ≤ sizeLine ∧ xs = z.cps.toList.map fun c => V.str ⟨#[c]⟩
theorem Off.seqL {H H' : Hp} {d a : Addr} {kvs : List (Key × V)} {xs : List V} (o : Off H H' d) (hd : H d = some (.dK kvs)) (h : SqL K H a xs) : SqL K H' a xs := by
  rcases h with (h | ⟨u, h⟩) | h
  · exact .inl (.inl (o _ _ h (ne_of h hd (by intro z; cases z))))
  · exact .inl (.inr ⟨u, o _ _ h (ne_of h hd (by intro z; cases z))⟩)
  · exact .inr h
theorem Off.seqT {H H' : Hp} {d a : Addr} {kvs : List (Key × V)} {xs : List V} (o : Off H H' d) (hd : H d = some (.dK kvs)) (h : SqT K H a xs) : SqT K H' a xs := by
  rcases h with (h | ⟨u, h⟩) | h
  · exact .inl (.inl (o _ _ h (ne_of h hd (by intro z; cases z))))
  · exact .inl (.inr ⟨u, o _ _ h (ne_of h hd (by intro z; cases z))⟩)
  · exact .inr h
theorem Seq3.off {H H' : Hp} {d : Addr} {kvs : List (Key × V)} {v : V} {xs : List V} (h : Seq3 K H v xs) (o : Off H H' d) (hd : H d = some (.dK kvs)) : Seq3 K H' v xs := by
  rcases h with ⟨a, e, h⟩ | ⟨a, e, h⟩ | h
  · exact .inl ⟨a, e, o.seqL hd h⟩
  · exact .inr (.inl ⟨a, e, o.seqT hd h⟩)
  · exact .inr (.inr h)
theorem Seq3.len {H : Hp} {v : V} {xs : List V} (h : Seq3 K H v xs) : LenV K v H xs.length := by
  rcases h with ⟨a, rfl, h⟩ | ⟨a, rfl, h⟩ | ⟨z, rfl, hz, rfl⟩
  · exact .inl ⟨xs, h, rfl⟩
  · exact .inr ⟨xs, h, rfl⟩
  · exact ⟨hz, by rw [List.length_map]; rfl⟩
theorem atI_map {α β : Type} (g : α → β) (l : List α) (i : Int) : atI (l.map g) i = (atI l i).map g := by
  unfold atI
  rw [List.length_map]
  cases ixN l.length i with
  | none => rfl
  | some j => simp
theorem Seq3.ix {H : Hp} {v y : V} {xs : List V} {i : Int} {Q : VK} (h : Seq3 K H v xs) (e : atI xs i = some y) (q : Q y H) : rIx K v (.int i) H Q := by
  rcases h with ⟨a, rfl, h⟩ | ⟨a, rfl, h⟩ | ⟨z, rfl, hz, rfl⟩
  · exact .inl ⟨a, xs, i, y, rfl, rfl, h, e, q⟩
  · exact .inr (.inl ⟨a, xs, i, y, rfl, rfl, h, e, q⟩)
  · rw [atI_map] at e
    obtain ⟨c, e1, rfl⟩ := Option.map_eq_some_iff.mp e
    exact .inr (.inr ⟨z, i, c, rfl, rfl, hz, e1, q⟩)
def spPick (K : PySem.W.Frag) : Sp := fun vs H Q _ => ∃ (d : Addr) (v : V) (xs : List V) (p : Int), vs = [.ref d, v] ∧ Tape H d p ∧ p < 1000000000 ∧ Seq3 K H v xs ∧ xs ≠ [] ∧ xs.length < 1073741824 ∧
  ∀ (x : V) (p' : Int) (H' : Hp), x ∈ xs → Tape H' d p' → p' ≤ p + 1 → Off H H' d → Q x H'
abbrev nPk : List Str := ["_law_tape", "_law_items"]
theorem scPk : FnScope nPk ["_law_tape", "_law_items"] (defScope sPick) := ⟨rfl, rfl, rfl, by decide +kernel, rfl, by decide +kernel, by decide +kernel⟩
theorem ok_pick {f : Addr} {fd : FuncData} (F : Fun K "_law_pick" "_law_pick" sPick f fd) (B : Blt mg) (DD : Dn P w K mg base 1 "_law_draw" ["_law_tape", "_law_many"] spDraw) : FnOk P w K mg base CX0 2 f fd ["_law_tape", "_law_items"] (spPick K) := by
  refine F.ok scPk (fun vs H Q E h => ?_) (fun cdv A outer s H vs Q E hr h => ?_)
  · obtain ⟨d, v, xs, p, rfl, _⟩ := h
    rfl
  · obtain ⟨d, v, xs, p, rfl, T, p1, S, hne, hl, k⟩ := h
    have hlen : 0 < xs.length := List.length_pos_iff.mpr hne
    refine ⟨_, pss_one (ps_ret (pe_ix ix_seq (pv 1) (pe_dn DD hr (by rfl) (pa_cons (pv 0) (pa_cons (pe_callB call_len (by rfl) B.len PySem.boot_len (pa_cons (pv 1) pa_nil)) pa_nil))) (fun _ _ => rfl))), ?_⟩
    refine ⟨_, rfl, _, rfl, _, rfl, _, _, rfl, S.len, d, _, p, rfl, by omega, by omega, T, p1, fun n p' H' n0 n1 T' hp o => ?_⟩
    obtain ⟨kvs, hd⟩ := T.at
    have h3 : n.toNat < xs.length := by omega
    exact (S.off o hd).ix (at_of (j := n.toNat) (by omega) (List.getElem?_eq_getElem h3)) (k _ p' H' (List.getElem_mem h3) T' hp o)
end
end Ask
namespace Ask
open PySem L2
/-! ### values of the law -/
theorem line1000 {n : Nat} (h : n ≤ 1000) : n ≤ sizeLine := Nat.le_of_lt (small1000 h)
theorem boot_str : bootBuiltins ("str" : Str) = some (.type "str") := by decide +kernel
theorem boot_bool : bootBuiltins ("bool" : Str) = some (.type "bool") := by decide +kernel
theorem boot_tuple : bootBuiltins ("tuple" : Str) = some (.type "tuple") := by decide +kernel
theorem boot_list : bootBuiltins ("list" : Str) = some (.type "list") := by decide +kernel
theorem boot_isi : bootBuiltins ("isinstance" : Str) = some (.builtin "isinstance") := by decide +kernel
theorem boot_all : bootBuiltins ("all" : Str) = some (.builtin "all") := by decide +kernel
theorem boot_repr : bootBuiltins ("repr" : Str) = some (.builtin "repr") := by decide +kernel
theorem boot_ord : bootBuiltins ("ord" : Str) = some (.builtin "ord") := by decide +kernel
/-- a text of the law: short, of signs, none a percent -/
structure TxOk (z : Str) : Prop where
  len : z.length ≤ 1000
  ok : PyData.strOk z = true
  no : ∀ c ∈ z.cps.toList, c ≠ 37
def txB (z : Str) : Bool := decide (z.length ≤ 1000) && PyData.strOk z && z.cps.toList.all fun c => decide (c ≠ 37)
theorem TxOk.of {z : Str} (h : txB z = true) : TxOk z := by
  unfold txB at h
  simp only [Bool.and_eq_true, decide_eq_true_eq, List.all_eq_true] at h
  exact ⟨h.1.1, h.1.2, h.2⟩
def tyL : List String := ["NoneType", "bool", "int", "str", "list", "tuple", "dict"]
theorem kit_int : ∀ t ∈ tyL, kitB t "int" = some (t == "int" || t == "bool") := by decide +kernel
theorem kit_bool : ∀ t ∈ tyL, kitB t "bool" = some (t == "bool") := by decide +kernel
theorem kit_str : ∀ t ∈ tyL, kitB t "str" = some (t == "str") := by decide +kernel
theorem kit_tuple : ∀ t ∈ tyL, kitB t "tuple" = some (t == "tuple") := by decide +kernel
def vTy (H : Hp) : V → String
  | .non => "NoneType"
  | .bl _ => "bool"
  | .int _ => "int"
  | .str _ => "str"
  | .ref a => match H a with
    | some (.lst _) => "list"
    | some (.tup _) => "tuple"
    | _ => "dict"
  | _ => ""
/-- a value, the tape d not among them; V2: the items of a tuple are values, too -/
def V1 (d : Addr) (H : Hp) : V → Prop
  | .non => True
  | .bl _ => True
  | .int _ => True
  | .str z => TxOk z
  | .ref a => a ≠ d ∧ ((∃ xs, H a = some (.lst xs)) ∨ (∃ xs, H a = some (.tup xs)) ∨ ∃ kvs : List (Key × V), H a = some (.dK kvs))
  | _ => False
def V2 (d : Addr) (H : Hp) : V → Prop
  | .non => True
  | .bl _ => True
  | .int _ => True
  | .str z => TxOk z
  | .ref a => a ≠ d ∧ ((∃ xs, H a = some (.lst xs)) ∨ (∃ xs, H a = some (.tup xs) ∧ xs.length ≤ 900 ∧ ∀ x ∈ xs, V1 d H x) ∨ ∃ kvs : List (Key × V), H a = some (.dK kvs))
  | _ => False
theorem V2.one {d : Addr} {H : Hp} {x : V} (h : V2 d H x) : V1 d H x := by
  cases x with
  | ref a =>
    obtain ⟨n, h | ⟨xs, h, _⟩ | h⟩ := h
    · exact ⟨n, .inl h⟩
    · exact ⟨n, .inr (.inl ⟨xs, h⟩)⟩
    · exact ⟨n, .inr (.inr h)⟩
  | non => exact h
  | bl _ => exact h
  | int _ => exact h
  | str _ => exact h
  | byt _ => exact h
  | flt _ => exact h
  | ty _ => exact h
theorem V1.off {d : Addr} {H H' : Hp} {x : V} (h : V1 d H x) (o : Off H H' d) : V1 d H' x := by
  cases x with
  | ref a =>
    obtain ⟨n, ⟨xs, h⟩ | ⟨xs, h⟩ | ⟨kvs, h⟩⟩ := h
    · exact ⟨n, .inl ⟨xs, o _ _ h n⟩⟩
    · exact ⟨n, .inr (.inl ⟨xs, o _ _ h n⟩)⟩
    · exact ⟨n, .inr (.inr ⟨kvs, o _ _ h n⟩)⟩
  | non => exact h
  | bl _ => exact h
  | int _ => exact h
  | str _ => exact h
  | byt _ => exact h
  | flt _ => exact h
  | ty _ => exact h
theorem V2.off {d : Addr} {H H' : Hp} {x : V} (h : V2 d H x) (o : Off H H' d) : V2 d H' x := by
  cases x with
  | ref a =>
    obtain ⟨n, ⟨xs, h⟩ | ⟨xs, h, l, g⟩ | ⟨kvs, h⟩⟩ := h
    · exact ⟨n, .inl ⟨xs, o _ _ h n⟩⟩
    · exact ⟨n, .inr (.inl ⟨xs, o _ _ h n, l, fun x hx => (g x hx).off o⟩)⟩
    · exact ⟨n, .inr (.inr ⟨kvs, o _ _ h n⟩)⟩
  | non => exact h
  | bl _ => exact h
  | int _ => exact h
  | str _ => exact h
  | byt _ => exact h
  | flt _ => exact h
  | ty _ => exact h
theorem V1.ty {K : PySem.W.Frag} {d : Addr} {H : Hp} {x : V} (h : V1 d H x) : TyX K H x (.type (vTy H x)) ∧ vTy H x ∈ tyL := by
  cases x with
  | ref a =>
    obtain ⟨n, ⟨xs, h⟩ | ⟨xs, h⟩ | ⟨kvs, h⟩⟩ := h
    · have e : vTy H (.ref a) = "list" := by unfold vTy; simp only [h]
      rw [e]; exact ⟨.base (.lst h), by decide⟩
    · have e : vTy H (.ref a) = "tuple" := by unfold vTy; simp only [h]
      rw [e]; exact ⟨.base (.tup h), by decide⟩
    · have e : vTy H (.ref a) = "dict" := by unfold vTy; simp only [h]
      rw [e]; exact ⟨.base (.dK h), by decide⟩
  | non => exact ⟨.base .non, by show "NoneType" ∈ tyL; decide⟩
  | bl b => exact ⟨.base (.bl b), by show "bool" ∈ tyL; decide⟩
  | int i => exact ⟨.base (.int i), by show "int" ∈ tyL; decide⟩
  | str z => exact ⟨.base (.str z), by show "str" ∈ tyL; decide⟩
  | byt _ => exact h.elim
  | flt _ => exact h.elim
  | ty _ => exact h.elim
theorem same_new {H : Hp} {p : Addr} (hp : H p = none) (o : HO) : Same H (L2.upd H p o) := fun b u e => by rw [upd_ne (ne_of_none e hp)]; exact e
/-! ### what a display gives: values that are new (d stands already) -/
def Is (H : Hp) (d : Addr) : Prop := ∃ o, H d = some o
theorem Is.same {H H' : Hp} {d : Addr} (h : Is H d) (s : Same H H') : Is H' d := let ⟨_, e⟩ := h; ⟨_, s _ _ e⟩
theorem Is.ne {H : Hp} {d p : Addr} (h : Is H d) (hp : H p = none) : p ≠ d := let ⟨_, e⟩ := h; (ne_of_none e hp).symm
def GE (te : TE) : Prop := ∀ (d : Addr) (σ : St) (H : Hp) (Q : VK), Is H d → (∀ x H', Same H H' → V2 d H' x → Q x H') → te σ H Q
def GA (ta : TA) (n : Nat) : Prop := ∀ (d : Addr) (σ : St) (H : Hp) (Q : List V → Hp → Prop), Is H d → (∀ xs H', Same H H' → xs.length = n → (∀ x ∈ xs, V2 d H' x) → Q xs H') → ta σ H Q
theorem ga_nil : GA tNil 0 := fun d σ H Q _ k => k [] H (Same.refl H) rfl fun _ h => (List.not_mem_nil h).elim
theorem ga_cons {te : TE} {ta : TA} {n : Nat} (h1 : GE te) (h2 : GA ta n) : GA (tCons te ta) (n + 1) := fun d σ H Q hd k =>
  h1 d σ H _ hd fun x H1 s1 g1 => h2 d σ H1 _ (hd.same s1) fun xs H2 s2 e gs => k (x :: xs) H2 (s1.trans s2) (by rw [List.length_cons, e]) fun y hy => by
    rcases List.mem_cons.mp hy with rfl | hy
    · exact g1.off (.of_same s2)
    · exact gs y hy
theorem ge_lst {ta : TA} {n : Nat} (h : GA ta n) (hn : n ≤ 900) : GE (tLst ta) := fun d σ H Q hd k =>
  h d σ H _ hd fun xs H1 s1 e gs => ⟨by rw [e]; exact line1000 (by omega), fun p hp => k _ _ (s1.trans (same_new hp _)) ⟨(hd.same s1).ne hp, .inl ⟨xs, upd_same⟩⟩⟩
theorem lst_then {ta : TA} {n : Nat} (h : GA ta n) (hn : n ≤ 900) (d : Addr) (σ : St) (H : Hp) (Q : VK) (hd : Is H d) (k : ∀ xs H1 l, Same H H1 → xs.length = n → (∀ x ∈ xs, V2 d H1 x) → H1 l = none → Q (.ref l) (L2.upd H1 l (.lst xs))) : tLst ta σ H Q :=
  h d σ H _ hd fun xs H1 s1 e gs => ⟨by rw [e]; exact line1000 (by omega), fun p hp => k xs H1 p s1 e gs hp⟩
theorem ge_tup {ta : TA} {n : Nat} (h : GA ta n) (hn : n ≤ 900) : GE (tTup ta) := fun d σ H Q hd k =>
  h d σ H _ hd fun xs H1 s1 e gs => ⟨by rw [e]; exact line1000 (by omega), fun p hp => k _ _ (s1.trans (same_new hp _)) ⟨(hd.same s1).ne hp, .inr (.inl ⟨xs, upd_same, by omega, fun x hx => (gs x hx).one.off (.of_same (same_new hp _))⟩)⟩⟩
theorem ge_tup0 : GE (tTup tNil) := ge_tup ga_nil (by decide)
theorem ge_lst0 : GE (tLst tNil) := ge_lst ga_nil (by decide)
theorem ge_tup1 {a : TE} (h : GE a) : GE (tTup (tCons a tNil)) := ge_tup (ga_cons h ga_nil) (by decide)
theorem ge_lst1 {a : TE} (h : GE a) : GE (tLst (tCons a tNil)) := ge_lst (ga_cons h ga_nil) (by decide)
theorem ge_tup2 {a b : TE} (h : GE a) (h2 : GE b) : GE (tTup (tCons a (tCons b tNil))) := ge_tup (ga_cons h (ga_cons h2 ga_nil)) (by decide)
theorem ge_non : GE (tC .non) := fun d σ H Q _ k => k _ _ (Same.refl H) trivial
theorem ge_bl (b : Bool) : GE (tC (.bl b)) := fun d σ H Q _ k => k _ _ (Same.refl H) trivial
theorem ge_int (i : Int) : GE (tC (.int i)) := fun d σ H Q _ k => k _ _ (Same.refl H) trivial
theorem ge_str (z : Str) (h : txB z = true) : GE (tC (.str z)) := fun d σ H Q _ k => k _ _ (Same.refl H) (TxOk.of h)
theorem ge_neg (i : Int) : GE (tUn (rU fun i => .int (-i)) (tC (.int i))) := fun d σ H Q _ k => ⟨i, rfl, k _ _ (Same.refl H) trivial⟩
theorem ge_pow (i j : Int) (h : CPow i j) : GE (tOp (rI CPow fun i j => .int (i ^ j.toNat)) (tC (.int i)) (tC (.int j))) := fun d σ H Q _ k => ⟨i, j, rfl, rfl, h, k _ _ (Same.refl H) trivial⟩
theorem ge_dict0 : GE tDNewK := fun d σ H Q hd k p hp => k _ _ (same_new hp _) ⟨hd.ne hp, .inr (.inr ⟨[], upd_same⟩)⟩
theorem ge_dict1 (z : Str) (i : Int) : GE (tDisp [(tC (.str z), tC (.int i))]) := fun d σ H Q hd k p hp => by
  refine ⟨upd_same, [(Sum.inr z, .int i)], rfl, by show 1 ≤ 15; decide, ?_⟩
  rw [upd_upd]
  exact k _ _ (same_new hp _) ⟨hd.ne hp, .inr (.inr ⟨_, upd_same⟩)⟩
theorem Tape.is {H : Hp} {d : Addr} {i : Int} (t : Tape H d i) : Is H d := let ⟨_, _, _, h, _⟩ := t; ⟨_, h⟩
section
variable {X : Cx}
theorem call_repr_bool : CallR X (.builtin "repr") (fun xs H Q => ∃ b, xs = [.bl b] ∧ Q (.str (if b then ("True" : String) else ("False" : String))) H) := by
  intro pins s σ H xs us Q I r h
  obtain ⟨b, rfl, q⟩ := h
  obtain ⟨u, rfl, ru⟩ := vals1 r
  cases ru
  refine PySem.P.repr_of_bool ?_
  cases b <;> exact ⟨.str _, H, I.tok _, ⟨_, rfl⟩, q⟩
end
/-! ### texts, lists of texts -/
theorem strs_depth (l : List Str) : PyData.depthAll (l.map PyData.str) = 0 := by
  induction l with
  | nil => rfl
  | cons x r ih => rw [List.map_cons]; simp only [PyData.depthAll, ih]; rfl
theorem strs_lay (l : List Str) (h : ∀ x ∈ l, PyData.strOk x = true) : PyData.canLayAll0 (l.map PyData.str) = true := by
  induction l with
  | nil => rfl
  | cons x r ih => rw [List.map_cons]; simp only [PyData.canLayAll0, PyData.canLay0, ih fun y hy => h y (List.mem_cons_of_mem _ hy), h x List.mem_cons_self, Bool.and_self]
theorem strs_shaped (l : List Str) (h : ∀ x ∈ l, PyData.strOk x = true) : SeqAt.shaped (.list (l.map PyData.str)) = true := by
  unfold SeqAt.shaped
  rw [Bool.and_eq_true]
  refine ⟨by simp only [PyData.canLay0, strs_lay l h], decide_eq_true ?_⟩
  simp only [PyData.depth, strs_depth]
  omega
theorem sign_ok {z : Str} (h : PyData.strOk z = true) {c : Nat} (hc : c ∈ z.cps.toList) : PyData.strOk ⟨#[c]⟩ = true := by
  unfold PyData.strOk at h ⊢
  rw [← Array.all_toList, List.all_eq_true] at h
  have := h c hc
  simpa using this
theorem strs_nil (l : List Str) : PyData.eqv (.list (l.map PyData.str)) (.list []) = l.isEmpty := by
  cases l with
  | nil => simp [PyData.eqv, PyData.eqvAll]
  | cons a r => simp [PyData.eqv, PyData.eqvAll]
theorem dp_strs {K : PySem.W.Frag} {H : Hp} (l : List Str) : DpAll K H (l.map V.str) (l.map PyData.str) := by
  induction l with
  | nil => exact .nil
  | cons x r ih => exact .cons (.str x) ih
theorem inV_strs (z : Str) (l : List Str) : inV (.str z) (l.map V.str) = decide (z ∈ l) := by
  unfold inV
  rw [List.any_map]
  induction l with
  | nil => simp
  | cons y r ih =>
    rw [List.any_cons, ih]
    show (decide (y = z) || _) = _
    by_cases e : y = z
    · subst e; simp
    · have e' : ¬ z = y := fun q => e q.symm
      simp [e, e']
theorem flat_strs (l : List Str) : (l.map V.str).all flatV = true := by
  rw [List.all_map]; simp [flatV, Function.comp_def]
theorem one_lt (a b : Nat) : decide (([a] : List Nat) < [b]) = decide (a < b) := by
  have : (([a] : List Nat) < [b]) ↔ a < b := by simp [List.cons_lt_cons_iff]
  simp [this]
/-- written sign a ≤ sign c ≤ written sign b -/
theorem low_at {x : Str} {a : Nat} (e : x.cps.toList = [a]) (c : Nat) : (!decide ((⟨#[c]⟩ : Str).cps.toList < x.cps.toList)) = decide (a ≤ c) := by
  rw [e]
  show (!decide (([c] : List Nat) < [a])) = _
  rw [one_lt]
  by_cases h : c < a <;> simp [h] <;> omega
theorem high_at {x : Str} {b : Nat} (e : x.cps.toList = [b]) (c : Nat) : (!decide (x.cps.toList < (⟨#[c]⟩ : Str).cps.toList)) = decide (c ≤ b) := by
  rw [e]
  show (!decide (([b] : List Nat) < [c])) = _
  rw [one_lt]
  by_cases h : b < c <;> simp [h] <;> omega
theorem cp_a : ("a" : Str).cps.toList = [97] := by decide +kernel
theorem cp_z : ("z" : Str).cps.toList = [122] := by decide +kernel
theorem cp_sp : (" " : Str).cps.toList = [32] := by decide +kernel
theorem cp_ti : ("~" : Str).cps.toList = [126] := by decide +kernel
theorem joinL_signs : ∀ cs : List Nat, TL.joinL [] (cs.map fun c => [c]) = cs
  | [] => rfl
  | [c] => rfl
  | c :: e :: r => by
    have ih := joinL_signs (e :: r)
    show [c] ++ ([] ++ TL.joinL [] ((e :: r).map fun c => [c])) = _
    rw [ih]
    rfl
theorem join_signs (cs : List Nat) : (Txt.join ("" : Str) (cs.map fun c => (⟨#[c]⟩ : Str))).cps.toList = cs := by
  have h := TL.tl_join ("" : Str) (cs.map fun c => (⟨#[c]⟩ : Str))
  rw [← TL.join_eq, List.map_map] at h
  exact h.trans (joinL_signs cs)
theorem sum_ones (cs : List Nat) : ((cs.map fun c => (⟨#[c]⟩ : Str)).map (·.length)).sum = cs.length := by
  rw [List.map_map]
  induction cs with
  | nil => rfl
  | cons c r ih => rw [List.map_cons, List.sum_cons, ih, List.length_cons]; show 1 + r.length = _; omega
theorem strOk_of {z : Str} (h2 : ∀ c ∈ z.cps.toList, c < 1114112) : PyData.strOk z = true := by
  unfold PyData.strOk
  rw [← Array.all_toList, List.all_eq_true]
  exact fun c hc => decide_eq_true (h2 c hc)
theorem len_of {z : Str} : z.length = z.cps.toList.length := by rw [Array.length_toList]; rfl
end Ask
namespace Ask
open PySem L2
def wholeB : V → Bool
  | .int _ => true
  | _ => false
def textB (z : Str) : Bool := decide (z.length ≤ 40) && z.cps.toList.all fun c => decide (32 ≤ c) && decide (c ≤ 126)
def textV : V → Bool
  | .str z => textB z
  | _ => false
def valB : V → Bool
  | .non => true
  | .int _ => true
  | .str z => textB z
  | _ => false
def kindV : V → V
  | .non => .non
  | .str _ => .str "text"
  | _ => .str "whole"
def rowB (H : Hp) : V → Bool
  | .ref a => match H a with
    | some (.tup xs) => xs.all valB
    | _ => false
  | _ => false
theorem ty_int {d : Addr} {H : Hp} {v : V} (h : V1 d H v) : (vTy H v == "int") = wholeB v := by
  cases v with
  | ref a =>
    obtain ⟨n, ⟨xs, h⟩ | ⟨xs, h⟩ | ⟨kvs, h⟩⟩ := h <;> (unfold vTy wholeB; simp only [h]; decide)
  | non => show ("NoneType" == "int") = false; decide
  | bl b => show ("bool" == "int") = false; decide
  | int i => show ("int" == "int") = true; decide
  | str z => show ("str" == "int") = false; decide
  | byt _ => exact h.elim
  | flt _ => exact h.elim
  | ty _ => exact h.elim
def isStr : V → Bool
  | .str _ => true
  | _ => false
theorem ty_str {d : Addr} {H : Hp} {v : V} (h : V1 d H v) : (vTy H v == "str") = isStr v := by
  cases v with
  | ref a =>
    obtain ⟨n, ⟨xs, h⟩ | ⟨xs, h⟩ | ⟨kvs, h⟩⟩ := h <;> (unfold vTy isStr; simp only [h]; decide)
  | non => show ("NoneType" == "str") = false; decide
  | bl b => show ("bool" == "str") = false; decide
  | int i => show ("int" == "str") = false; decide
  | str z => show ("str" == "str") = true; decide
  | byt _ => exact h.elim
  | flt _ => exact h.elim
  | ty _ => exact h.elim
theorem not_str {v : V} (h : isStr v = false) : textV v = false := by
  cases v <;> first | rfl | cases h
/-- a def of one value -/
def spF (g : V → V) : Sp := fun vs H Q _ => ∃ (d : Addr) (v : V), vs = [v] ∧ V1 d H v ∧ ∀ H', Same H H' → Q (g v) H'
/-- the module's own constants -/
structure Cst (mg : Str → Option Value) : Prop where
  chars : ∃ t, mg "MOST_CHARACTERS" = some (.int 40 t)
  perc : ∃ t, mg "PERCENT" = some (.int 37 t)
section
variable {P : Program} {w : World} {K : PySem.W.Frag} {mg : Str → Option Value} {base : Heap}
/-! ### is_whole -/
abbrev n_is_whole : List Str := ["thing"]
theorem sc_is_whole : FnScope n_is_whole ["thing"] (defScope sWhole) := ⟨rfl, rfl, rfl, by decide +kernel, rfl, by decide +kernel, by decide +kernel⟩
theorem ok_is_whole {f : Addr} {fd : FuncData} (F : Fun K "is_whole" "is_whole" sWhole f fd) (B : Blt mg) : FnOk P w K mg base CX0 1 f fd ["thing"] (spF fun v => .bl (wholeB v)) := by
  refine F.ok sc_is_whole (fun vs H Q E h => ?_) (fun cdv A outer s H vs Q E hr h => ?_)
  · obtain ⟨d, v, rfl, _⟩ := h
    rfl
  · obtain ⟨d, v, rfl, hv, k⟩ := h
    obtain ⟨ht, hm⟩ := hv.ty (K := K)
    refine ⟨_, pss_one (ps_ret (pe_and (pe_callB call_isi (by rfl) B.isi boot_isi (pa_cons (pv 0) (pa_cons (pe_bltn (v := .ty "int") (by rfl) B.int boot_int rfl) pa_nil))) (pe_one (pe_not (pe_callB call_isi (by rfl) B.isi boot_isi (pa_cons (pv 0) (pa_cons (pe_bltn (v := .ty "bool") (by rfl) B.bool boot_bool rfl) pa_nil))))))), ?_⟩
    refine ⟨_, rfl, v, .ty "int", .type (vTy H v), .type "int", _, rfl, .ty _, ht, kit_ty (kit_int _ hm), _, rfl, ?_⟩
    have e1 := ty_int hv
    have k := k H (Same.refl H)
    refine ite2 (fun g => ?_) (fun g => ?_)
    · refine ⟨_, rfl, v, .ty "bool", .type (vTy H v), .type "bool", _, rfl, .ty _, ht, kit_ty (kit_bool _ hm), _, rfl, ?_⟩
      have e2 : (!(vTy H v == "bool")) = wholeB v := by
        rw [← e1]
        cases q : (vTy H v == "bool") with
        | true => rw [eq_of_beq q]; rfl
        | false => rw [q, Bool.or_false] at g; rw [g]; rfl
      rw [e2]
      exact k
    · have e2 : false = wholeB v := by
        rw [← e1]
        cases q : (vTy H v == "int") with
        | true => rw [q, Bool.true_or] at g; exact absurd rfl g
        | false => rfl
      rw [e2]
      exact k
/-! ### is_text -/
abbrev n_is_text : List Str := ["thing", "letter"]
theorem sc_is_text : FnScope n_is_text ["thing"] (defScope sText) := ⟨rfl, rfl, rfl, by decide +kernel, rfl, by decide +kernel, by decide +kernel⟩
theorem ok_is_text {f : Addr} {fd : FuncData} (F : Fun K "is_text" "is_text" sText f fd) (B : Blt mg) (C : Cst mg) : FnOk P w K mg base CX0 1 f fd ["thing"] (spF fun v => .bl (textV v)) := by
  refine F.ok sc_is_text (fun vs H Q E h => ?_) (fun cdv A outer s H vs Q E hr h => ?_)
  · obtain ⟨d, v, rfl, _⟩ := h
    rfl
  · obtain ⟨d, v, rfl, hv, k⟩ := h
    obtain ⟨ht, hm⟩ := hv.ty (K := K)
    obtain ⟨t1, hmost⟩ := C.chars
    obtain ⟨t2, hperc⟩ := C.perc
    refine ⟨_, pss_cons (ps_if (pw_or (pt_not (pt_val (pe_callB call_isi (by rfl) B.isi boot_isi (pa_cons (pv 0) (pa_cons (pe_bltn (v := .ty "str") (by rfl) B.str boot_str rfl) pa_nil))))) (pw_or1 (pt_cmpR op_gt (pe_callB call_len (by rfl) B.len PySem.boot_len (pa_cons (pv 0) pa_nil)) (pe_glob (v := .int 40) (by rfl) hmost ⟨_, rfl⟩) (nomark _)))).pt (pss_one (ps_ret pe_bl)) pss_nil)
      (pss_one (ps_ret (pe_callB (cr_all rfl) (by rfl) B.all boot_all (pa_cons (pe_lc (own := [("letter", 1)]) (g := gName 1) (tt := tYes) rfl sc_is_text.nd (pi_str (pv 0)) (blkOk_by (N := n_is_text) (sc := defScope sText) (by decide +kernel))
            (fun _ _ _ _ _ => pg_name (i := 1) sc_is_text.nd rfl (Or.inl rfl)) (fun _ _ _ _ _ => pts_nil)
            (fun _ _ _ _ _ => pe_and (pe_chain op_le_str op_le_str pe_str (pv 1) pe_str) (pe_one (pe_cmpR op_ne (pe_callB call_ord (by rfl) B.ord boot_ord (pa_cons (pv 1) pa_nil)) (pe_glob (v := .int 37) (by rfl) hperc ⟨_, rfl⟩) (nomark _))))) pa_nil)))), ?_⟩
    refine ⟨_, rfl, v, .ty "str", .type (vTy H v), .type "str", _, rfl, .ty _, ht, kit_ty (kit_str _ hm), _, rfl, ?_⟩
    rw [ty_str hv]
    cases v with
    | str z =>
      have hz : TxOk z := hv
      refine iteF ⟨_, rfl, .str z, _, rfl, ⟨line1000 hz.len, rfl⟩, _, _, rfl, rfl, _, rfl, ?_⟩
      refine ite2 (fun g => ?_) (fun g => ?_)
      · have g := of_decide_eq_true g
        have e : textB z = false := by unfold textB; rw [decide_eq_false (show ¬ z.length ≤ 40 by omega)]; rfl
        have k : Q (.bl (textB z)) H := k H (Same.refl H)
        rw [e] at k
        exact k
      · have g : ¬ (40 : Int) < z.length := fun q => g (decide_eq_true q)
        refine ⟨_, rfl, z, rfl, fun D hD => ?_⟩
        refine lc_it walk_str (fun i H2 => Same H H2 ∧ H2 D = some (.lst (((z.cps.toList.take i).map fun c => decide (32 ≤ c) && decide (c ≤ 126)).map V.bl))) ⟨same_new hD _, upd_same⟩ (fun _ _ _ _ => trivial) ?_ ?_
        · rintro i x H2 H3 hi ⟨s2, hD2⟩ ⟨rfl, c, hc, rfl⟩
          have e : z.cps.toList[i]? = some c := by rw [Array.getElem?_toList]; exact hc
          have step : ∀ b, b = (decide (32 ≤ c) && decide (c ≤ 126)) → ∃ acc, H3 D = some (.lst acc) ∧ acc.length < sizeLine ∧ Same H (L2.upd H3 D (.lst (acc ++ [V.bl b]))) ∧ (L2.upd H3 D (.lst (acc ++ [V.bl b]))) D = some (.lst (((z.cps.toList.take (i + 1)).map fun c => decide (32 ≤ c) && decide (c ≤ 126)).map V.bl)) := by
            rintro b rfl
            refine ⟨_, hD2, ?_, fun p o e => by rw [upd_ne (ne_of_none e hD)]; exact s2 _ _ e, ?_⟩
            · refine small1000 ?_
              rw [List.length_map, List.length_map, List.length_take]
              exact Nat.le_trans (Nat.min_le_left _ _) (Nat.le_of_lt (Nat.lt_of_lt_of_le hi hz.len))
            · rw [upd_same, List.take_add_one, e]
              simp
          refine ⟨rfl, ?_⟩
          unfold tYes
          refine iteT ?_
          refine ⟨_, rfl, _, _, rfl, rfl, _, rfl, ?_⟩
          rw [low_at cp_sp]
          refine ite2 (fun g1 => ?_) (fun g1 => ?_)
          · refine ⟨_, _, rfl, rfl, _, rfl, ?_⟩
            rw [high_at cp_ti]
            refine ite2 (fun g2 => ?_) (fun g2 => ?_)
            · refine ⟨_, rfl, _, rfl, rfl, rfl, ?_⟩
              have hc37 : c ≠ 37 := hz.no c (List.mem_of_getElem? e)
              have e37 : (!decide (V.int ((⟨#[c]⟩ : Str).cps.getD 0 0 : Nat) = V.int 37)) = true := by
                rw [decide_eq_false]
                · rfl
                · intro q
                  have q := V.int.inj q
                  have : ((⟨#[c]⟩ : Str).cps.getD 0 0 : Nat) = c := rfl
                  rw [this] at q
                  omega
              rw [e37]
              exact step _ (by rw [g1, g2]; rfl)
            · exact step _ (by rw [g1, Bool.eq_false_iff.mpr g2]; rfl)
          · exact ⟨_, rfl, step _ (by rw [Bool.eq_false_iff.mpr g1]; rfl)⟩
        · rintro H2 ⟨s2, hD2⟩
          have ez : z.cps.toList.take z.cps.size = z.cps.toList := by rw [← Array.length_toList, List.take_length]
          rw [ez] at hD2
          refine ⟨D, _, rfl, SqL.of hD2, ?_⟩
          have e : ((z.cps.toList.map fun c => decide (32 ≤ c) && decide (c ≤ 126)).all id) = textB z := by
            unfold textB
            rw [decide_eq_true (show z.length ≤ 40 by omega), List.all_map, Bool.true_and]
            rfl
          rw [e]
          exact k _ s2
    | non => exact iteT (k H (Same.refl H))
    | bl _ => exact iteT (k H (Same.refl H))
    | int _ => exact iteT (k H (Same.refl H))
    | ref _ => exact iteT (k H (Same.refl H))
    | byt _ => exact hv.elim
    | flt _ => exact hv.elim
    | ty _ => exact hv.elim
/-! ### is_value -/
abbrev n_is_value : List Str := ["thing"]
theorem sc_is_value : FnScope n_is_value ["thing"] (defScope sValue) := ⟨rfl, rfl, rfl, by decide +kernel, rfl, by decide +kernel, by decide +kernel⟩
theorem ok_is_value {f : Addr} {fd : FuncData} (F : Fun K "is_value" "is_value" sValue f fd) (B : Blt mg) (DW : Dn P w K mg base 1 "is_whole" ["thing"] (spF fun v => .bl (wholeB v))) (DT : Dn P w K mg base 1 "is_text" ["thing"] (spF fun v => .bl (textV v))) : FnOk P w K mg base CX0 2 f fd ["thing"] (spF fun v => .bl (valB v)) := by
  refine F.ok sc_is_value (fun vs H Q E h => ?_) (fun cdv A outer s H vs Q E hr h => ?_)
  · obtain ⟨d, v, rfl, _⟩ := h
    rfl
  · obtain ⟨d, v, rfl, hv, k⟩ := h
    refine ⟨_, pss_one (ps_ret (pe_or (pe_cmpR op_isN (pv 0) pe_non (nomark _)) (pe_or (pe_dn DW hr (by rfl) (pa_cons (pv 0) pa_nil)) (pe_one (pe_dn DT hr (by rfl) (pa_cons (pv 0) pa_nil)))))), ?_⟩
    refine ⟨_, rfl, rfl, _, rfl, ?_⟩
    cases v with
    | non => exact iteT (k H (Same.refl H))
    | str z => exact iteF ⟨_, rfl, d, _, rfl, hv, fun H1 s1 => ⟨_, rfl, iteF ⟨_, rfl, d, _, rfl, hv, fun H2 s2 => k H2 (s1.trans s2)⟩⟩⟩
    | bl _ => exact iteF ⟨_, rfl, d, _, rfl, hv, fun H1 s1 => ⟨_, rfl, iteF ⟨_, rfl, d, _, rfl, hv, fun H2 s2 => k H2 (s1.trans s2)⟩⟩⟩
    | int _ => exact iteF ⟨_, rfl, d, _, rfl, hv, fun H1 s1 => ⟨_, rfl, iteT (k H1 s1)⟩⟩
    | ref _ => exact iteF ⟨_, rfl, d, _, rfl, hv, fun H1 s1 => ⟨_, rfl, iteF ⟨_, rfl, d, _, rfl, hv.off (.of_same s1), fun H2 s2 => k H2 (s1.trans s2)⟩⟩⟩
    | byt _ => exact hv.elim
    | flt _ => exact hv.elim
    | ty _ => exact hv.elim
/-! ### kind_of -/
abbrev n_kind_of : List Str := ["value"]
theorem sc_kind_of : FnScope n_kind_of ["value"] (defScope sKind) := ⟨rfl, rfl, rfl, by decide +kernel, rfl, by decide +kernel, by decide +kernel⟩
theorem ok_kind_of {f : Addr} {fd : FuncData} (F : Fun K "kind_of" "kind_of" sKind f fd) (B : Blt mg) : FnOk P w K mg base CX0 1 f fd ["value"] (spF kindV) := by
  refine F.ok sc_kind_of (fun vs H Q E h => ?_) (fun cdv A outer s H vs Q E hr h => ?_)
  · obtain ⟨d, v, rfl, _⟩ := h
    rfl
  · obtain ⟨d, v, rfl, hv, k⟩ := h
    obtain ⟨ht, hm⟩ := hv.ty (K := K)
    have k := k H (Same.refl H)
    refine ⟨_, pss_cons (ps_if (pt_cmpR op_isN (pv 0) pe_non (nomark _)) (pss_one (ps_ret pe_non)) pss_nil) (pss_one (ps_ret (pe_ifExp (pt_val (pe_callB call_isi (by rfl) B.isi boot_isi (pa_cons (pv 0) (pa_cons (pe_bltn (v := .ty "str") (by rfl) B.str boot_str rfl) pa_nil)))) pe_str pe_str))), ?_⟩
    refine ⟨_, rfl, rfl, _, rfl, ?_⟩
    cases hn : decide (v = V.non) with
    | true =>
      have e := of_decide_eq_true hn
      subst e
      exact iteT k
    | false =>
      refine iteF ⟨_, rfl, v, .ty "str", .type (vTy H v), .type "str", _, rfl, .ty _, ht, kit_ty (kit_str _ hm), _, rfl, ?_⟩
      rw [ty_str hv]
      cases v with
      | non => cases hn
      | str z => exact iteT k
      | bl _ => exact iteF k
      | int _ => exact iteF k
      | ref _ => exact iteF k
      | byt _ => exact hv.elim
      | flt _ => exact hv.elim
      | ty _ => exact hv.elim
/-! ### is_row -/
def spRow (K : PySem.W.Frag) : Sp := fun vs H Q _ => ∃ (d : Addr) (v : V), vs = [v] ∧ V2 d H v ∧ ∀ H', Same H H' → Q (.bl (rowB H v)) H'
abbrev n_is_row : List Str := ["thing", "part"]
theorem sc_is_row : FnScope n_is_row ["thing"] (defScope sRow) := ⟨rfl, rfl, rfl, by decide +kernel, rfl, by decide +kernel, by decide +kernel⟩
theorem ok_is_row {f : Addr} {fd : FuncData} (F : Fun K "is_row" "is_row" sRow f fd) (B : Blt mg) (DV : Dn P w K mg base 2 "is_value" ["thing"] (spF fun v => .bl (valB v))) : FnOk P w K mg base CX0 3 f fd ["thing"] (spRow K) := by
  refine F.ok sc_is_row (fun vs H Q E h => ?_) (fun cdv A outer s H vs Q E hr h => ?_)
  · obtain ⟨d, v, rfl, _⟩ := h
    rfl
  · obtain ⟨d, v, rfl, hv, k⟩ := h
    obtain ⟨ht, hm⟩ := hv.one.ty (K := K)
    refine ⟨_, pss_one (ps_ret (pe_and (pe_callB call_isi (by rfl) B.isi boot_isi (pa_cons (pv 0) (pa_cons (pe_bltn (v := .ty "tuple") (by rfl) B.tuple boot_tuple rfl) pa_nil))) (pe_one (pe_callB (cr_all rfl) (by rfl) B.all boot_all (pa_cons (pe_lc (own := [("part", 1)]) (g := gName 1) (tt := tYes) rfl sc_is_row.nd (pi_tup (pv 0)) (blkOk_by (N := n_is_row) (sc := defScope sRow) (by decide +kernel))
            (fun _ _ _ _ _ => pg_name (i := 1) sc_is_row.nd rfl (Or.inl rfl)) (fun _ _ _ _ _ => pts_nil) (fun _ _ _ _ _ => pe_dn DV hr (by rfl) (pa_cons (pv 1) pa_nil))) pa_nil))))), ?_⟩
    refine ⟨_, rfl, v, .ty "tuple", .type (vTy H v), .type "tuple", _, rfl, .ty _, ht, kit_ty (kit_tuple _ hm), _, rfl, ?_⟩
    cases v with
    | ref a =>
      obtain ⟨n, ⟨xs, h⟩ | ⟨xs, h, hl, g⟩ | ⟨kvs, h⟩⟩ := hv
      · have e : vTy H (.ref a) = "list" := by unfold vTy; simp only [h]
        rw [e]
        refine iteF ?_
        have k := k H (Same.refl H)
        unfold rowB at k
        simp only [h] at k
        exact k
      · have e : vTy H (.ref a) = "tuple" := by unfold vTy; simp only [h]
        rw [e]
        have er : rowB H (.ref a) = xs.all valB := by unfold rowB; simp only [h]
        refine iteT ⟨_, rfl, a, rfl, ⟨_, SqT.of h⟩, fun D hD => ?_⟩
        refine lc_it (walk_tup (xs := xs)) (fun i H2 => Same H H2 ∧ H2 D = some (.lst (((xs.take i).map valB).map V.bl))) ⟨same_new hD _, upd_same⟩ (fun i H2 _ ⟨s2, _⟩ => SqT.of (s2 _ _ h)) ?_ ?_
        · rintro i x H2 H3 hi ⟨s2, hD2⟩ ⟨rfl, hx⟩
          refine ⟨rfl, ?_⟩
          unfold tYes
          refine iteT ?_
          refine ⟨_, rfl, d, x, rfl, (g x (List.mem_of_getElem? hx)).off (.of_same s2), fun H4 s4 => ?_⟩
          refine ⟨_, s4 _ _ hD2, ?_, fun p o e => by rw [upd_ne (ne_of_none e hD)]; exact s4 _ _ (s2 _ _ e), ?_⟩
          · refine small1000 ?_
            rw [List.length_map, List.length_map, List.length_take]
            omega
          · rw [upd_same, List.take_add_one, hx]
            simp
        · rintro H2 ⟨s2, hD2⟩
          rw [List.take_length] at hD2
          refine ⟨D, _, rfl, SqL.of hD2, ?_⟩
          have e2 : (xs.map valB).all id = rowB H (.ref a) := by rw [er, List.all_map]; rfl
          rw [e2]
          exact k _ s2
      · have e : vTy H (.ref a) = "dict" := by unfold vTy; simp only [h]
        rw [e]
        refine iteF ?_
        have k := k H (Same.refl H)
        unfold rowB at k
        simp only [h] at k
        exact k
    | non => exact iteF (k H (Same.refl H))
    | bl _ => exact iteF (k H (Same.refl H))
    | int _ => exact iteF (k H (Same.refl H))
    | str _ => exact iteF (k H (Same.refl H))
    | byt _ => exact hv.elim
    | flt _ => exact hv.elim
    | ty _ => exact hv.elim
end
end Ask
namespace Ask
open PySem L2
def kwL : List Str := (["all", "and", "any", "as", "by", "case", "coalesce", "count", "cross", "desc", "distinct", "else", "end", "except", "exists", "first", "from", "full", "group", "having", "in", "inner", "intersect", "is", "join", "least", "left", "most", "not", "null", "on", "one", "or", "order", "select", "sum", "then", "union", "when", "where"] : List String).map Str.ofString
def lowC (c : Nat) : Bool := decide (97 ≤ c) && decide (c ≤ 122)
def nameB (z : Str) : Bool := decide (1 ≤ z.length) && decide (z.length ≤ 12) && z.cps.toList.all lowC && !decide (z = "self") && !decide (z ∈ kwL)
def nameV : V → Bool
  | .str z => nameB z
  | _ => false
structure Kws (K : PySem.W.Frag) (mg : Str → Option Value) : Prop where
  most : ∃ t, mg "MOST_LETTERS" = some (.int 12 t)
  kws : ∃ a, mg "KEYWORDS" = some (.ref a) ∧ ∀ H, SqT K H a (kwL.map V.str)
section
variable {P : Program} {w : World} {K : PySem.W.Frag} {mg : Str → Option Value} {base : Heap}
/-! ### is_name -/
abbrev n_is_name : List Str := ["thing", "letter"]
theorem sc_is_name : FnScope n_is_name ["thing"] (defScope sIsName) := ⟨rfl, rfl, rfl, by decide +kernel, rfl, by decide +kernel, by decide +kernel⟩
theorem ok_is_name {f : Addr} {fd : FuncData} (F : Fun K "is_name" "is_name" sIsName f fd) (B : Blt mg) (C : Kws K mg) : FnOk P w K mg base CX0 1 f fd ["thing"] (spF fun v => .bl (nameV v)) := by
  refine F.ok sc_is_name (fun vs H Q E h => ?_) (fun cdv A outer s H vs Q E hr h => ?_)
  · obtain ⟨d, v, rfl, _⟩ := h
    rfl
  · obtain ⟨d, v, rfl, hv, k⟩ := h
    obtain ⟨ht, hm⟩ := hv.ty (K := K)
    obtain ⟨tk, hmost⟩ := C.most
    obtain ⟨kw, hkw, skw⟩ := C.kws
    refine ⟨_, pss_cons (ps_if (pw_or (pt_not (pt_val (pe_callB call_isi (by rfl) B.isi boot_isi (pa_cons (pv 0) (pa_cons (pe_bltn (v := .ty "str") (by rfl) B.str boot_str rfl) pa_nil)))))
          (pw_or1 (pt_not (pt_chain op_le op_le pe_int (pe_callB call_len (by rfl) B.len PySem.boot_len (pa_cons (pv 0) pa_nil)) (pe_glob (v := .int 12) (by rfl) hmost ⟨_, rfl⟩))))).pt (pss_one (ps_ret pe_bl)) pss_nil)
      (pss_cons (ps_if (pt_not (pt_val (pe_callB (cr_all rfl) (by rfl) B.all boot_all (pa_cons (pe_lc (own := [("letter", 1)]) (g := gName 1) (tt := tYes) rfl sc_is_name.nd (pi_str (pv 0)) (blkOk_by (N := n_is_name) (sc := defScope sIsName) (by decide +kernel))
            (fun _ _ _ _ _ => pg_name (i := 1) sc_is_name.nd rfl (Or.inl rfl)) (fun _ _ _ _ _ => pts_nil) (fun _ _ _ _ _ => pe_chain op_le_str op_le_str pe_str (pv 1) pe_str)) pa_nil)))) (pss_one (ps_ret pe_bl)) pss_nil)
      (pss_one (ps_ret (pe_and (pe_cmpR op_ne (pv 0) pe_str (nomark _)) (pe_one (pe_cmpR op_notIn_seq (pv 0) (pe_glob (v := .ref kw) (by rfl) hkw rfl) (by with_unfolding_all rfl))))))), ?_⟩
    refine ⟨_, rfl, v, .ty "str", .type (vTy H v), .type "str", _, rfl, .ty _, ht, kit_ty (kit_str _ hm), _, rfl, ?_⟩
    rw [ty_str hv]
    cases v with
    | str z =>
      have hok : TxOk z := hv
      have hz := hok.len
      have k : ∀ H', Same H H' → Q (.bl (nameB z)) H' := k
      refine iteF ⟨_, rfl, .str z, _, rfl, ⟨line1000 hz, rfl⟩, _, _, rfl, rfl, _, rfl, ?_⟩
      refine ite2 (fun h1 => ?_) (fun h1 => ?_)
      · refine ⟨_, _, rfl, rfl, _, rfl, ?_⟩
        have h1 := of_decide_eq_true h1
        by_cases h2 : ((z.length : Int) ≤ 12)
        · rw [decide_eq_true h2]
          refine iteF ⟨_, rfl, z, rfl, fun D hD => ?_⟩
          refine lc_it walk_str (fun i H2 => Same H H2 ∧ H2 D = some (.lst (((z.cps.toList.take i).map lowC).map V.bl))) ⟨fun b o e => by rw [upd_ne (ne_of_none e hD)]; exact e, upd_same⟩ (fun _ _ _ _ => trivial) ?_ ?_
          · rintro i x H2 H3 hi ⟨s2, hD2⟩ ⟨rfl, c, hc, rfl⟩
            have hil : i < z.cps.toList.length := by rw [Array.length_toList]; exact hi
            have step : ∀ b, b = lowC c → ∃ acc, H3 D = some (.lst acc) ∧ acc.length < sizeLine ∧ Same H (L2.upd H3 D (.lst (acc ++ [V.bl b]))) ∧ (L2.upd H3 D (.lst (acc ++ [V.bl b]))) D = some (.lst (((z.cps.toList.take (i + 1)).map lowC).map V.bl)) := by
              rintro b rfl
              refine ⟨_, hD2, ?_, fun p o e => by rw [upd_ne (ne_of_none e hD)]; exact s2 _ _ e, ?_⟩
              · refine small1000 ?_
                rw [List.length_map, List.length_map, List.length_take]
                exact Nat.le_trans (Nat.min_le_left _ _) (Nat.le_of_lt (Nat.lt_of_lt_of_le hi hz))
              · rw [upd_same, List.take_add_one]
                have e : z.cps.toList[i]? = some c := by rw [Array.getElem?_toList]; exact hc
                rw [e]
                simp
            refine ⟨rfl, ?_⟩
            unfold tYes
            refine iteT ?_
            refine ⟨_, rfl, _, _, rfl, rfl, _, rfl, ?_⟩
            rw [low_at cp_a]
            refine ite2 (fun g1 => ?_) (fun g1 => ?_)
            · refine ⟨_, _, rfl, rfl, ?_⟩
              rw [high_at cp_z]
              exact step _ (by unfold lowC; rw [g1, Bool.true_and])
            · exact step _ (by unfold lowC; rw [Bool.eq_false_iff.mpr g1, Bool.false_and])
          · rintro H2 ⟨s2, hD2⟩
            have ez : z.cps.toList.take z.cps.size = z.cps.toList := by rw [← Array.length_toList, List.take_length]
            rw [ez] at hD2
            refine ⟨D, _, rfl, SqL.of hD2, _, rfl, ?_⟩
            have eall : (z.cps.toList.map lowC).all id = z.cps.toList.all lowC := by rw [List.all_map]; rfl
            rw [eall]
            cases ea : z.cps.toList.all lowC with
            | false =>
              refine iteT ?_
              have e : nameB z = false := by unfold nameB; rw [ea]; simp
              rw [← e]
              exact k _ s2
            | true =>
              refine iteF ⟨_, rfl, rfl, _, rfl, ?_⟩
              have en : nameB z = (!decide (z = "self") && !decide (z ∈ kwL)) := by
                unfold nameB
                rw [ea, decide_eq_true (show 1 ≤ z.length by omega), decide_eq_true (show z.length ≤ 12 by omega)]
                simp
              have ev : decide ((V.str z) = V.str "self") = decide (z = "self") := by
                by_cases q : z = "self"
                · rw [q]; simp
                · rw [decide_eq_false q, decide_eq_false (fun t => q (V.str.inj t))]
              rw [ev]
              refine ite2 (fun g1 => ?_) (fun g1 => ?_)
              · refine ⟨_, rfl, kw, _, rfl, .inr (skw _), rfl, flat_strs _, ?_⟩
                rw [inV_strs]
                rw [g1, Bool.true_and] at en
                show Q (.bl (!decide (z ∈ kwL))) H2
                rw [← en]
                exact k _ s2
              · rw [Bool.eq_false_iff.mpr g1, Bool.false_and] at en
                rw [← en]
                exact k _ s2
        · rw [decide_eq_false h2]
          have e : nameB z = false := by unfold nameB; rw [decide_eq_false (show ¬ z.length ≤ 12 by omega)]; simp
          refine iteT ?_
          have q := k H (Same.refl H)
          rw [e] at q
          exact q
      · have h1 : ¬ (1 : Int) ≤ z.length := fun q => h1 (decide_eq_true q)
        have e : nameB z = false := by unfold nameB; rw [decide_eq_false (show ¬ 1 ≤ z.length by omega)]; simp
        refine ⟨_, rfl, iteT ?_⟩
        have q := k H (Same.refl H)
        rw [e] at q
        exact q
    | non => exact iteT (k H (Same.refl H))
    | bl _ => exact iteT (k H (Same.refl H))
    | int _ => exact iteT (k H (Same.refl H))
    | ref _ => exact iteT (k H (Same.refl H))
    | byt _ => exact hv.elim
    | flt _ => exact hv.elim
    | ty _ => exact hv.elim
/-! ### _law_keywords -/
def spKeys : Sp := fun vs H Q _ => vs = [] ∧ ∀ p, H p = none → Q (.ref p) (L2.upd H p (.lst (kwL.map V.str)))
abbrev nKy : List Str := ["_law_words"]
theorem scKy : FnScope nKy [] (defScope sKeys) := ⟨rfl, rfl, rfl, by decide +kernel, rfl, by decide +kernel, by decide +kernel⟩
theorem kw_split : Txt.split ((("all and any as by case coalesce count cross desc distinct else end except exists first " : Str) ++ ("from full group having in inner intersect is join least left most not null on " : Str)) ++ ("one or order select sum then union when where" : Str)) (" " : Str) = kwL := by decide +kernel
theorem ok_keys {f : Addr} {fd : FuncData} (F : Fun K "_law_keywords" "_law_keywords" sKeys f fd) : FnOk P w K mg base CX0 1 f fd [] spKeys := by
  refine F.ok scKy (fun vs H Q E h => ?_) (fun cdv A outer s H vs Q E hr h => ?_)
  · obtain ⟨rfl, _⟩ := h
    rfl
  · obtain ⟨rfl, k⟩ := h
    refine ⟨_, pss_cons (ps_set (i := 0) scKy.nd rfl (Or.inl rfl) pe_str) (pss_cons (ps_set (i := 0) scKy.nd rfl (Or.inl rfl) (pe_op op_add_str (pv 0) pe_str)) (pss_one (ps_ret (pe_split (pe_op op_add_str (pv 0) pe_str) pe_str)))), ?_⟩
    refine ⟨_, rfl, _, _, rfl, rfl, by decide +kernel, _, rfl, _, _, rfl, rfl, by decide +kernel, ⟨_, rfl⟩, _, _, rfl, rfl, by decide +kernel, by decide +kernel, fun p hp => ?_⟩
    rw [kw_split]
    exact k p hp
/-! ### _law_text -/
def spTxt : Sp := fun vs H Q _ => ∃ (d : Addr) (m p : Int), vs = [.ref d, .int m] ∧ 1 ≤ m ∧ m ≤ 100 ∧ Tape H d p ∧ p < 900000000 ∧ ∀ (z : Str) (p' : Int) (H' : Hp), TxOk z → z.length ≤ 100 → Tape H' d p' → p' ≤ p + 1000 → Off H H' d → Q (.str z) H'
theorem sel_two {c : Bool} {x y : Str} {σ : St} {H : Hp} {Q : VK} (h : ∀ z, z = x ∨ z = y → Q (.str z) H) : if c = true then tC (.str x) σ H Q else tC (.str y) σ H Q := by
  cases c with
  | true => exact iteT (h x (.inl rfl))
  | false => exact iteF (h y (.inr rfl))
theorem cps_append (x y : Str) : (x ++ y).cps.toList = x.cps.toList ++ y.cps.toList := TL.tl_append x y
abbrev mix : Str := "ab zZ~!'09"
abbrev mixN : Str := "ab zZ~!'09\n"
theorem mix_ok : ∀ z, z = mixN ∨ z = mix → z.length ≤ 1000 ∧ 0 < z.length ∧ ∀ c ∈ z.cps.toList, c < 128 ∧ c ≠ 37 := by
  rintro z (rfl | rfl)
  · exact ⟨by decide +kernel, by decide +kernel, by decide +kernel⟩
  · exact ⟨by decide +kernel, by decide +kernel, by decide +kernel⟩
abbrev n_law_text : List Str := ["_law_tape", "_law_most", "_law_found", "_law_k"]
theorem sc_law_text : FnScope n_law_text ["_law_tape", "_law_most"] (defScope sTxt) := ⟨rfl, rfl, rfl, by decide +kernel, rfl, by decide +kernel, by decide +kernel⟩
theorem ok_law_text {f : Addr} {fd : FuncData} (F : Fun K "_law_text" "_law_text" sTxt f fd) (B : Blt mg) (DD : Dn P w K mg base 1 "_law_draw" ["_law_tape", "_law_many"] spDraw) (DP : Dn P w K mg base 2 "_law_pick" ["_law_tape", "_law_items"] (spPick K)) : FnOk P w K mg base CX0 3 f fd ["_law_tape", "_law_most"] spTxt := by
  refine F.ok sc_law_text (fun vs H Q E h => ?_) (fun cdv A outer s H vs Q E hr h => ?_)
  · obtain ⟨d, m, p, rfl, _⟩ := h
    rfl
  · obtain ⟨d, m, p, rfl, m1, m2, T, p1, k⟩ := h
    have hr1 : Room 1 _ := hr.mono (by decide)
    refine ⟨_, pss_cons (ps_set (i := 2) sc_law_text.nd rfl (Or.inl rfl) pe_str)
      (pss_cons (ps_for PassesOwn.never rfl (pi_range1 (by rfl) B.range (pa_cons (pe_dn DP hr (by rfl) (pa_cons (pv 0) (pa_cons (pe_lst (pa_cons pe_int (pa_cons pe_int (pa_cons (pe_dn DD hr1 (by rfl) (pa_cons (pv 0) (pa_cons (pv 1) pa_nil))) (pa_cons (pe_op op_sub (pv 1) pe_int) (pa_cons (pv 1) pa_nil)))))) pa_nil))) pa_nil)) (pg_name (i := 3) sc_law_text.nd rfl (Or.inl rfl))
        (pss_one (ps_set (i := 2) sc_law_text.nd rfl (Or.inl rfl) (pe_op op_add_str (pv 2) (pe_dn DP hr (by rfl) (pa_cons (pv 0) (pa_cons (pe_ifExp (pt_cmpR op_eq (pe_dn DD hr1 (by rfl) (pa_cons (pv 0) (pa_cons pe_int pa_nil))) pe_int (nomark _)) pe_str pe_str) pa_nil)))))))
      (pss_one (ps_ret (pv 2)))), ?_⟩
    refine ⟨_, rfl, _, rfl, _, rfl, d, m, p, rfl, by omega, by omega, T, by omega, fun n p2 H2 n0 n1 T2 hp2 o2 => ⟨_, rfl, _, _, rfl, rfl, _, rfl, by show 5 ≤ sizeLine; decide, fun l hl => ?_⟩⟩
    refine ⟨d, .ref l, _, p2, rfl, T2.new hl _, by omega, .inl ⟨l, rfl, SqL.of upd_same⟩, (by intro z; cases z), by show 5 < 1073741824; decide, fun x p3 H3 hx T3 hp3 o3 => ?_⟩
    obtain ⟨j, rfl, hj0, hj1⟩ : ∃ j : Int, x = .int j ∧ 0 ≤ j ∧ j ≤ m := by
      simp only [List.mem_cons, List.not_mem_nil, or_false] at hx
      rcases hx with rfl | rfl | rfl | rfl | rfl
      · exact ⟨_, rfl, by omega, by omega⟩
      · exact ⟨_, rfl, by omega, by omega⟩
      · exact ⟨_, rfl, n0, by omega⟩
      · exact ⟨_, rfl, by omega, by omega⟩
      · exact ⟨_, rfl, by omega, by omega⟩
    refine ⟨j, rfl, by omega, by omega, for_range (n := j.toNat) (fun i σ H4 => ∃ (z : Str) (v3 : Option V) (p4 : Int), σ = [some (.ref d), some (.int m), some (.str z), v3] ∧ z.cps.toList.length = i ∧ (∀ c ∈ z.cps.toList, c < 128 ∧ c ≠ 37) ∧ Tape H4 d p4 ∧ p4 ≤ p + 2 + 2 * i ∧ Off H H4 d)
      ⟨"", none, p3, rfl, by decide +kernel, by decide +kernel, T3, by omega, o2.trans (Off.trans ((Off.refl _ _).new hl _) o3)⟩ ?_ ?_⟩
    · rintro i σ H4 hi ⟨z, v3, p4, rfl, hzl, hzc, T4, hp4, o4⟩
      refine ⟨_, rfl, _, rfl, _, rfl, d, 30, p4, rfl, by decide, by decide, T4, by omega, fun n5 p5 H5 n50 n51 T5 hp5 o5 => ⟨rfl, _, rfl, sel_two fun sg hsg => ?_⟩⟩
      have hs := mix_ok sg hsg
      have hne : sg.cps.toList.map (fun c => V.str ⟨#[c]⟩) ≠ [] := by
        intro q
        have := congrArg List.length q
        rw [List.length_map, Array.length_toList] at this
        exact absurd this (Nat.ne_of_gt hs.2.1)
      refine ⟨d, .str sg, _, p5, rfl, T5, by omega, .inr (.inr ⟨sg, rfl, line1000 hs.1, rfl⟩), hne, ?_, fun x p6 H6 hx T6 hp6 o6 => ?_⟩
      · rw [List.length_map, Array.length_toList]
        exact Nat.lt_of_le_of_lt hs.1 (by decide)
      obtain ⟨c, hc, rfl⟩ := List.mem_map.mp hx
      have hzl' : z.length = i := by rw [len_of, hzl]
      refine ⟨_, _, rfl, rfl, by rw [hzl']; show i + 1 ≤ sizeLine; exact line1000 (by omega), _, _, p6, rfl, ?_, ?_, T6, by omega, o4.trans (o5.trans o6)⟩
      · rw [cps_append, List.length_append, hzl]; rfl
      · intro c' h'
        rw [cps_append] at h'
        rcases List.mem_append.mp h' with h' | h'
        · exact hzc c' h'
        · rw [List.mem_singleton.mp h']; exact hs.2.2 c hc
    · rintro σ H4 ⟨z, v3, p4, rfl, hzl, hzc, T4, hp4, o4⟩
      have hzl' : z.length ≤ 100 := by rw [len_of, hzl]; omega
      exact ⟨_, rfl, k z p4 H4 ⟨by omega, strOk_of fun c hc => by have := (hzc c hc).1; omega, fun c hc => (hzc c hc).2⟩ hzl' T4 (by omega) o4⟩
end
end Ask
namespace Ask
open PySem L2
section
variable {P : Program} {w : World} {K : PySem.W.Frag} {mg : Str → Option Value} {base : Heap}
/-! ### _law_odd -/
def spOdd : Sp := fun vs H Q _ => ∃ (d : Addr) (p : Int), vs = [.ref d] ∧ Tape H d p ∧ p < 990000000 ∧ ∀ (x : V) (p' : Int) (H' : Hp), V2 d H' x → Tape H' d p' → p' ≤ p + 1 → Off H H' d → Q x H'
abbrev n_law_odd : List Str := ["_law_tape", "_law_some"]
theorem sc_law_odd : FnScope n_law_odd ["_law_tape"] (defScope sOdd) := ⟨rfl, rfl, rfl, by decide +kernel, rfl, by decide +kernel, by decide +kernel⟩
theorem ok_law_odd {f : Addr} {fd : FuncData} (F : Fun K "_law_odd" "_law_odd" sOdd f fd) (B : Blt mg) (DP : Dn P w K mg base 2 "_law_pick" ["_law_tape", "_law_items"] (spPick K)) : FnOk P w K mg base CX0 3 f fd ["_law_tape"] spOdd := by
  refine F.ok sc_law_odd (fun vs H Q E h => ?_) (fun cdv A outer s H vs Q E hr h => ?_)
  · obtain ⟨d, p, rfl, _⟩ := h
    rfl
  · obtain ⟨d, p, rfl, T, p1, k⟩ := h
    refine ⟨_, pss_cons (ps_set (i := 1) sc_law_odd.nd rfl (Or.inl rfl) (pe_lst (pa_cons pe_non (pa_cons pe_bl (pa_cons pe_bl (pa_cons pe_int (pa_cons pe_int (pa_cons (pe_un un_neg pe_int) (pa_cons pe_int (pa_cons (pe_op op_pow pe_int pe_int) (pa_cons pe_str (pa_cons pe_str (pa_cons pe_str (pa_cons pe_str (pa_cons pe_str (pa_cons pe_str (pa_cons pe_str (pa_cons (pe_tup pa_nil) (pa_cons (pe_lst pa_nil) (pa_cons pe_dnewK (pa_cons (pe_tup (pa_cons pe_str pa_nil)) pa_nil)))))))))))))))))))))
      (pss_cons (ps_set (i := 1) sc_law_odd.nd rfl (Or.inl rfl) (pe_op op_cat (pv 1) (pe_lst (pa_cons (pe_lst (pa_cons pe_str pa_nil)) (pa_cons (pe_tup (pa_cons pe_int pa_nil)) (pa_cons (pe_tup (pa_cons pe_int (pa_cons pe_int pa_nil))) (pa_cons (pe_lst (pa_cons pe_int pa_nil)) (pa_cons (pe_tup (pa_cons (pe_tup (pa_cons pe_str pa_nil)) pa_nil)) (pa_cons (pe_disp (pps_cons pe_str pe_int pps_nil) rfl rfl (by intro z; cases z) (by decide)) (pa_cons (pe_tup (pa_cons pe_str (pa_cons pe_int pa_nil))) (pa_cons (pe_tup (pa_cons pe_str (pa_cons pe_non pa_nil))) (pa_cons (pe_tup (pa_cons pe_str (pa_cons (pe_tup pa_nil) pa_nil))) (pa_cons (pe_tup (pa_cons pe_non pa_nil)) pa_nil)))))))))))))
      (pss_one (ps_ret (pe_dn DP hr (by rfl) (pa_cons (pv 0) (pa_cons (pe_op op_cat (pv 1) (pe_lst (pa_cons (pe_tup (pa_cons pe_bl pa_nil)) (pa_cons (pe_tup (pa_cons pe_str (pa_cons pe_int pa_nil))) (pa_cons pe_str (pa_cons (pe_tup (pa_cons pe_int (pa_cons pe_int pa_nil))) (pa_cons (pe_tup (pa_cons (pe_tup (pa_cons pe_str (pa_cons pe_int pa_nil))) pa_nil)) (pa_cons (pe_lst (pa_cons (pe_tup pa_nil) pa_nil)) (pa_cons pe_int pa_nil))))))))) pa_nil)))))), ?_⟩
    unfold tSeq tAsg
    refine lst_then (n := 19) ?h1 (by decide) d _ _ _ T.is fun xs1 H1 l1 s1 e1 g1 hl1 => ?_
    case h1 =>
      repeat' first
        | exact ga_nil | exact ge_non | exact ge_bl _ | exact ge_int _ | exact ge_neg _ | exact ge_dict0 | exact ge_dict1 _ _ | exact ge_str _ (by decide +kernel) | exact ge_pow _ _ ⟨by decide, by decide, by decide⟩
        | exact ge_tup0 | exact ge_lst0 | refine ge_tup1 ?_ | refine ge_lst1 ?_ | refine ge_tup2 ?_ ?_ | refine ga_cons ?_ ?_
    have a1 := s1.trans (same_new hl1 (.lst xs1))
    refine ⟨_, rfl, lst_then (n := 10) ?h2 (by decide) d _ _ _ (T.is.same a1) fun xs2 H2 l2 s2 e2 g2 hl2 => ?_⟩
    case h2 =>
      repeat' first
        | exact ga_nil | exact ge_non | exact ge_bl _ | exact ge_int _ | exact ge_neg _ | exact ge_dict0 | exact ge_dict1 _ _ | exact ge_str _ (by decide +kernel) | exact ge_pow _ _ ⟨by decide, by decide, by decide⟩
        | exact ge_tup0 | exact ge_lst0 | refine ge_tup1 ?_ | refine ge_lst1 ?_ | refine ge_tup2 ?_ ?_ | refine ga_cons ?_ ?_
    have n1 := s2 l1 _ upd_same
    have n12 : l1 ≠ l2 := ne_of_none n1 hl2
    refine ⟨l1, l2, xs1, xs2, rfl, rfl, by rw [upd_ne n12]; exact n1, upd_same, by rw [e1, e2]; decide, fun l3 hl3 => ?_⟩
    have a2 := a1.trans (s2.trans ((same_new hl2 (.lst xs2)).trans (same_new hl3 (.lst (xs1 ++ xs2)))))
    refine ⟨_, rfl, _, rfl, lst_then (n := 7) ?h3 (by decide) d _ _ _ (T.is.same a2) fun xs3 H3 l4 s3 e3 g3 hl4 => ?_⟩
    case h3 =>
      repeat' first
        | exact ga_nil | exact ge_non | exact ge_bl _ | exact ge_int _ | exact ge_neg _ | exact ge_dict0 | exact ge_dict1 _ _ | exact ge_str _ (by decide +kernel) | exact ge_pow _ _ ⟨by decide, by decide, by decide⟩
        | exact ge_tup0 | exact ge_lst0 | refine ge_tup1 ?_ | refine ge_lst1 ?_ | refine ge_tup2 ?_ ?_ | refine ga_cons ?_ ?_
    have n3 := s3 l3 _ upd_same
    have n34 : l3 ≠ l4 := ne_of_none n3 hl4
    refine ⟨l3, l4, xs1 ++ xs2, xs3, rfl, rfl, by rw [upd_ne n34]; exact n3, upd_same, by rw [List.length_append, e1, e2, e3]; decide, fun l hl => ?_⟩
    have a3 := s3.trans ((same_new hl4 (.lst xs3)).trans (same_new hl (.lst ((xs1 ++ xs2) ++ xs3))))
    have a4 := a2.trans a3
    refine ⟨d, _, (xs1 ++ xs2) ++ xs3, p, rfl, T.same a4, by omega, .inl ⟨l, rfl, SqL.of upd_same⟩, ?_, by rw [List.length_append, List.length_append, e1, e2, e3]; decide, fun x p' H' hx T' hp o => ?_⟩
    · intro z
      have := congrArg List.length z
      rw [List.length_append, List.length_append, e1, e2, e3] at this
      cases this
    refine k x p' H' ?_ T' hp ((Off.of_same a4).trans o)
    rcases List.mem_append.mp hx with h | h
    · rcases List.mem_append.mp h with h | h
      · exact ((g1 x h).off (.of_same ((same_new hl1 (.lst xs1)).trans (s2.trans ((same_new hl2 (.lst xs2)).trans ((same_new hl3 (.lst (xs1 ++ xs2))).trans a3)))))).off o
      · exact ((g2 x h).off (.of_same ((same_new hl2 (.lst xs2)).trans ((same_new hl3 (.lst (xs1 ++ xs2))).trans a3)))).off o
    · exact ((g3 x h).off (.of_same ((same_new hl4 (.lst xs3)).trans (same_new hl (.lst ((xs1 ++ xs2) ++ xs3)))))).off o
/-! ### _law_is_value_here -/
abbrev n_law_is_value_here : List Str := ["_law_thing", "_law_sign"]
theorem sc_law_is_value_here : FnScope n_law_is_value_here ["_law_thing"] (defScope sHere) := ⟨rfl, rfl, rfl, by decide +kernel, rfl, by decide +kernel, by decide +kernel⟩
theorem ok_law_is_value_here {f : Addr} {fd : FuncData} (F : Fun K "_law_is_value_here" "_law_is_value_here" sHere f fd) (B : Blt mg) : FnOk P w K mg base CX0 1 f fd ["_law_thing"] (spF fun v => .bl (valB v)) := by
  refine F.ok sc_law_is_value_here (fun vs H Q E h => ?_) (fun cdv A outer s H vs Q E hr h => ?_)
  · obtain ⟨d, v, rfl, _⟩ := h
    rfl
  · obtain ⟨d, v, rfl, hv, k⟩ := h
    obtain ⟨ht, hm⟩ := hv.ty (K := K)
    refine ⟨_, pss_cons (ps_if (pt_val (pe_callB call_isi (by rfl) B.isi boot_isi (pa_cons (pv 0) (pa_cons (pe_bltn (v := .ty "str") (by rfl) B.str boot_str rfl) pa_nil)))) (pss_one (ps_ret (pe_and (pe_cmpR op_le (pe_callB call_len (by rfl) B.len PySem.boot_len (pa_cons (pv 0) pa_nil)) pe_int (nomark _)) (pe_one (pe_cmpR (op_eqD hr.units)
          (pe_lc (own := [("_law_sign", 1)]) (g := gName 1) rfl sc_law_is_value_here.nd (pi_str (pv 0)) (blkOk_by (N := n_law_is_value_here) (sc := defScope sHere) (by decide +kernel))
            (fun _ _ _ _ _ => pg_name (i := 1) sc_law_is_value_here.nd rfl (Or.inl rfl)) (fun _ _ _ _ _ => pts_one (pt_not (pt_chain op_le_str op_le_str pe_str (pv 1) pe_str))) (fun _ _ _ _ _ => pv 1)) (pe_lst pa_nil) (nomark _)))))) pss_nil)
      (pss_one (ps_ret (pe_or (pe_cmpR op_isN (pv 0) pe_non (nomark _)) (pe_one (pe_and (pe_callB call_isi (by rfl) B.isi boot_isi (pa_cons (pv 0) (pa_cons (pe_bltn (v := .ty "int") (by rfl) B.int boot_int rfl) pa_nil))) (pe_one (pe_not (pe_callB call_isi (by rfl) B.isi boot_isi (pa_cons (pv 0) (pa_cons (pe_bltn (v := .ty "bool") (by rfl) B.bool boot_bool rfl) pa_nil)))))))))), ?_⟩
    refine ⟨_, rfl, v, .ty "str", .type (vTy H v), .type "str", _, rfl, .ty _, ht, kit_ty (kit_str _ hm), _, rfl, ?_⟩
    rw [ty_str hv]
    cases hs : isStr v with
    | true =>
      cases v with
      | str z =>
        have hz : TxOk z := hv
        refine iteT ⟨_, rfl, .str z, _, rfl, ⟨line1000 hz.len, rfl⟩, _, _, rfl, rfl, _, rfl, ?_⟩
        refine ite2 (fun g => ?_) (fun g => ?_)
        · have g := of_decide_eq_true g
          refine ⟨_, rfl, z, rfl, fun D hD => ?_⟩
          refine lc_it walk_str (fun i H2 => Same H H2 ∧ H2 D = some (.lst ((((z.cps.toList.take i).filter fun c => !(decide (32 ≤ c) && decide (c ≤ 126))).map fun c => (⟨#[c]⟩ : Str)).map V.str))) ⟨same_new hD _, upd_same⟩ (fun _ _ _ _ => trivial) ?_ ?_
          · rintro i x H2 H3 hi ⟨s2, hD2⟩ ⟨rfl, c, hc, rfl⟩
            have e : z.cps.toList[i]? = some c := by rw [Array.getElem?_toList]; exact hc
            have yes : (decide (32 ≤ c) && decide (c ≤ 126)) = true → Same H H3 ∧ H3 D = some (.lst ((((z.cps.toList.take (i + 1)).filter fun c => !(decide (32 ≤ c) && decide (c ≤ 126))).map fun c => (⟨#[c]⟩ : Str)).map V.str)) := fun q => by
              refine ⟨s2, ?_⟩
              rw [hD2, List.take_add_one, e, List.filter_append]
              simp only [Option.toList_some, List.filter_cons, q, Bool.not_true, List.filter_nil, if_neg Bool.false_ne_true, List.append_nil]
            have no : (decide (32 ≤ c) && decide (c ≤ 126)) = false → ∃ acc, H3 D = some (.lst acc) ∧ acc.length < sizeLine ∧ Same H (L2.upd H3 D (.lst (acc ++ [V.str ⟨#[c]⟩]))) ∧ (L2.upd H3 D (.lst (acc ++ [V.str ⟨#[c]⟩]))) D = some (.lst ((((z.cps.toList.take (i + 1)).filter fun c => !(decide (32 ≤ c) && decide (c ≤ 126))).map fun c => (⟨#[c]⟩ : Str)).map V.str)) := fun q => by
              refine ⟨_, hD2, ?_, fun p o e => by rw [upd_ne (ne_of_none e hD)]; exact s2 _ _ e, ?_⟩
              · refine small1000 ?_
                rw [List.length_map, List.length_map]
                refine Nat.le_trans (List.length_filter_le _ _) ?_
                rw [List.length_take]
                exact Nat.le_trans (Nat.min_le_left _ _) (Nat.le_of_lt (Nat.lt_of_lt_of_le hi hz.len))
              · rw [upd_same, List.take_add_one, e, List.filter_append]
                simp only [Option.toList_some, List.filter_cons, q, Bool.not_false, List.filter_nil, if_pos, List.map_append, List.map_cons, List.map_nil]
            refine ⟨rfl, _, rfl, _, _, rfl, rfl, _, rfl, ?_⟩
            rw [low_at cp_sp]
            refine ite2 (fun g1 => ?_) (fun g1 => ?_)
            · refine ⟨_, _, rfl, rfl, _, rfl, ?_⟩
              rw [high_at cp_ti]
              cases g2 : decide (c ≤ 126) with
              | true => exact iteF (yes (by rw [g1, g2]; rfl))
              | false => exact iteT ⟨_, rfl, no (by rw [g2, Bool.and_false])⟩
            · exact ⟨_, rfl, iteT ⟨_, rfl, no (by rw [Bool.eq_false_iff.mpr g1]; rfl)⟩⟩
          · rintro H2 ⟨s2, hD2⟩
            have ez : z.cps.toList.take z.cps.size = z.cps.toList := by rw [← Array.length_toList, List.take_length]
            rw [ez] at hD2
            refine ⟨by decide, fun q2 hq2 => ?_⟩
            have nDq : D ≠ q2 := ne_of_none hD2 hq2
            refine ⟨_, _, .lst (SqL.of (by rw [upd_ne nDq]; exact hD2)) (dp_strs _), .lst (SqL.of upd_same) .nil, strs_shaped _ (fun x hx => by obtain ⟨c, hc, rfl⟩ := List.mem_map.mp hx; exact sign_ok hz.ok (List.mem_filter.mp hc).1), strs_shaped [] (fun _ hx => (List.not_mem_nil hx).elim), ?_⟩
            have e3 := strs_nil ((z.cps.toList.filter fun c => !(decide (32 ≤ c) && decide (c ≤ 126))).map fun c => (⟨#[c]⟩ : Str))
            rw [e3, List.isEmpty_map]
            have e2 : (z.cps.toList.filter fun c => !(decide (32 ≤ c) && decide (c ≤ 126))).isEmpty = valB (.str z) := by
              show _ = textB z
              unfold textB
              rw [decide_eq_true (show z.length ≤ 40 by omega), Bool.true_and]
              induction z.cps.toList with
              | nil => rfl
              | cons a r ih =>
                rw [List.filter_cons, List.all_cons]
                cases h : (decide (32 ≤ a) && decide (a ≤ 126)) with
                | true => simpa using ih
                | false => simp
            rw [e2]
            exact k _ (s2.trans (same_new hq2 _))
        · have g : ¬ (z.length : Int) ≤ 40 := fun q => g (decide_eq_true q)
          have k : Q (.bl (textB z)) H := k H (Same.refl H)
          have e : textB z = false := by unfold textB; rw [decide_eq_false (show ¬ z.length ≤ 40 by omega)]; rfl
          rw [e] at k
          exact k
      | _ => cases hs
    | false =>
      have k : Q (.bl (valB v)) H := k H (Same.refl H)
      refine iteF ⟨_, rfl, rfl, _, rfl, ?_⟩
      cases hn : decide (v = V.non) with
      | true =>
        have e := of_decide_eq_true hn
        subst e
        exact iteT k
      | false =>
        have ev : valB v = wholeB v := by
          cases v with
          | non => cases hn
          | str z => cases hs
          | _ => rfl
        rw [ev] at k
        refine iteF ⟨_, rfl, v, .ty "int", .type (vTy H v), .type "int", _, rfl, .ty _, ht, kit_ty (kit_int _ hm), _, rfl, ?_⟩
        have e1 := ty_int hv
        refine ite2 (fun g => ?_) (fun g => ?_)
        · refine ⟨_, rfl, v, .ty "bool", .type (vTy H v), .type "bool", _, rfl, .ty _, ht, kit_ty (kit_bool _ hm), _, rfl, ?_⟩
          have e2 : (!(vTy H v == "bool")) = wholeB v := by
            rw [← e1]
            cases q : (vTy H v == "bool") with
            | true => rw [eq_of_beq q]; rfl
            | false => rw [q, Bool.or_false] at g; rw [g]; rfl
          rw [e2]
          exact k
        · have e2 : false = wholeB v := by
            rw [← e1]
            cases q : (vTy H v == "int") with
            | true => rw [q, Bool.true_or] at g; exact absurd rfl g
            | false => rfl
          rw [e2]
          exact k
end
end Ask
namespace Ask
open PySem L2
section
variable {X : Cx}
/-- xs == [], whatever stands in xs -/
def rEqNil (K : PySem.W.Frag) : R2 := fun x y H Q => ∃ (a b : Addr) (xs : List V), x = .ref a ∧ y = .ref b ∧ SqL K H a xs ∧ SqL K H b [] ∧ Q (.bl xs.isEmpty) H
theorem op_eqNil (hu : X.A.units < cLine) : OpR X (compareOp .Eq) (rEqNil X.K) := by
  intro pins s σ H x y v u Q I rx ry h
  obtain ⟨a, b, xs, rfl, rfl, ha, hb, q⟩ := h
  cases rx
  cases ry
  obtain ⟨its, r, pl, hz⟩ := I.list ha
  obtain ⟨its2, r2, pl2, hz2⟩ := I.list hb
  have e2 : its2 = [] := List.length_eq_zero_iff.mp (by have := r2.length; simpa using this.symm)
  subst e2
  cases xs with
  | nil =>
    have e1 : its = [] := List.length_eq_zero_iff.mp (by have := r.length; simpa using this.symm)
    subst e1
    refine SeqAt.eq_listAt (e := fun _ => true) pl.isList pl2.isList rfl hu ?_ ?_
    · intro j h1
      exact absurd h1 (by simp)
    · exact ⟨.bl true, H, I, rfl, q⟩
  | cons x xs =>
    refine SeqAt.eq_list_lengthsAt pl.isList pl2.isList ?_ hu ⟨.bl false, H, I, rfl, q⟩
    have := r.length
    cases its with
    | nil => simp at this
    | cons i is => simp
end
end Ask
namespace Ask
open PySem L2
theorem sel_one {c : Bool} {x y : Str} {σ : St} {H : Hp} {Q : VK} (h : Q (.str (if c = true then x else y)) H) : if c = true then tC (.str x) σ H Q else tC (.str y) σ H Q := by
  cases c with
  | true => exact iteT h
  | false => exact iteF h
theorem V1.lst {d D : Addr} {H : Hp} {x : V} {ys : List V} (h : V1 d H x) (hD : H D = some (.lst ys)) (zs : List V) : V1 d (L2.upd H D (.lst zs)) x := by
  cases x with
  | ref a =>
    by_cases e : a = D
    · subst e; exact ⟨h.1, .inl ⟨zs, upd_same⟩⟩
    · obtain ⟨n, ⟨xs, h⟩ | ⟨xs, h⟩ | ⟨kvs, h⟩⟩ := h
      · exact ⟨n, .inl ⟨xs, by rw [upd_ne e]; exact h⟩⟩
      · exact ⟨n, .inr (.inl ⟨xs, by rw [upd_ne e]; exact h⟩)⟩
      · exact ⟨n, .inr (.inr ⟨kvs, by rw [upd_ne e]; exact h⟩)⟩
  | _ => exact h
theorem V2.lst {d D : Addr} {H : Hp} {x : V} {ys : List V} (h : V2 d H x) (hD : H D = some (.lst ys)) (zs : List V) : V2 d (L2.upd H D (.lst zs)) x := by
  cases x with
  | ref a =>
    by_cases e : a = D
    · subst e; exact ⟨h.1, .inl ⟨zs, upd_same⟩⟩
    · obtain ⟨n, ⟨xs, h⟩ | ⟨xs, h, l, g⟩ | ⟨kvs, h⟩⟩ := h
      · exact ⟨n, .inl ⟨xs, by rw [upd_ne e]; exact h⟩⟩
      · exact ⟨n, .inr (.inl ⟨xs, by rw [upd_ne e]; exact h, l, fun x hx => (g x hx).lst hD zs⟩)⟩
      · exact ⟨n, .inr (.inr ⟨kvs, by rw [upd_ne e]; exact h⟩)⟩
  | _ => exact h
theorem rowB_same {d : Addr} {H H' : Hp} {v : V} (h : V2 d H v) (s : Same H H') : rowB H' v = rowB H v := by
  cases v with
  | ref a =>
    obtain ⟨n, ⟨xs, h⟩ | ⟨xs, h, l, g⟩ | ⟨kvs, h⟩⟩ := h
    all_goals (have h' := s _ _ h; unfold rowB; simp only [h, h'])
  | _ => rfl
theorem all_filter {α : Type} (f : α → Bool) (l : List α) : (l.filter fun c => !f c).isEmpty = l.all f := by
  induction l with
  | nil => rfl
  | cons a r ih =>
    rw [List.filter_cons, List.all_cons]
    cases h : f a with
    | true => simpa using ih
    | false => simp
theorem TxOk.cut {z : Str} (h : TxOk z) (lo hi : Option Int) : TxOk (cutS z lo hi) := by
  have hm : ∀ c ∈ (cutS z lo hi).cps.toList, c ∈ z.cps.toList := fun c hc => by
    have hc : c ∈ ((z.cps.toList.drop (HT.sIx z.length 0 lo)).take (HT.sIx z.length z.length hi - HT.sIx z.length 0 lo)) := by
      unfold cutS at hc
      simpa using hc
    exact List.mem_of_mem_drop (List.mem_of_mem_take hc)
  refine ⟨Nat.le_trans (cutS_length z lo hi) h.len, strOk_of fun c hc => ?_, fun c hc => h.no c (hm c hc)⟩
  have h2 := h.ok
  unfold PyData.strOk at h2
  rw [← Array.all_toList, List.all_eq_true] at h2
  exact of_decide_eq_true (h2 c (hm c hc))
theorem strOk_mem {z : Str} (h : PyData.strOk z = true) {c : Nat} (hc : c ∈ z.cps.toList) : c < 1114112 := by
  unfold PyData.strOk at h
  rw [← Array.all_toList, List.all_eq_true] at h
  exact of_decide_eq_true (h c hc)
theorem TxOk.app {x y : Str} (h : TxOk x) (g : TxOk y) (hl : x.length + y.length ≤ 1000) : TxOk (x ++ y) := by
  refine ⟨?_, strOk_of fun c hc => ?_, fun c hc => ?_⟩
  · rw [len_of, cps_append, List.length_append, ← len_of, ← len_of]; exact hl
  · rw [cps_append] at hc
    rcases List.mem_append.mp hc with hc | hc
    · exact strOk_mem h.ok hc
    · exact strOk_mem g.ok hc
  · rw [cps_append] at hc
    rcases List.mem_append.mp hc with hc | hc
    · exact h.no c hc
    · exact g.no c hc
theorem kw_ok : kwL.all txB = true := by decide +kernel
def letB : V → Bool
  | .str z => z.cps.toList.all lowC
  | _ => false
section
variable {P : Program} {w : World} {K : PySem.W.Frag} {mg : Str → Option Value} {base : Heap}
structure Defs (P : Program) (w : World) (K : PySem.W.Frag) (mg : Str → Option Value) (base : Heap) : Prop where
  value : Dn P w K mg base 2 "is_value" ["thing"] (spF fun v => .bl (valB v))
  row : Dn P w K mg base 3 "is_row" ["thing"] (spRow K)
  kind : Dn P w K mg base 1 "kind_of" ["value"] (spF kindV)
  name : Dn P w K mg base 1 "is_name" ["thing"] (spF fun v => .bl (nameV v))
  beg : Dn P w K mg base 1 "_law_begin" ["_law_script"] (spBegin K)
  draw : Dn P w K mg base 1 "_law_draw" ["_law_tape", "_law_many"] spDraw
  pick : Dn P w K mg base 2 "_law_pick" ["_law_tape", "_law_items"] (spPick K)
  odd : Dn P w K mg base 3 "_law_odd" ["_law_tape"] spOdd
  keys : Dn P w K mg base 1 "_law_keywords" [] spKeys
  text : Dn P w K mg base 3 "_law_text" ["_law_tape", "_law_most"] spTxt
  here : Dn P w K mg base 1 "_law_is_value_here" ["_law_thing"] (spF fun v => .bl (valB v))
def spLaw (K : PySem.W.Frag) : Sp := fun vs H Q _ => ∃ (a : Addr) (ns : List Int), vs = [.ref a] ∧ SqL K H a (ns.map V.int) ∧ ns.length ≤ 63 ∧ ∀ H', Q (.bl true) H'
theorem hu64 {A : Around} {k : Nat} (hr : Room k A) : A.units < cLine := Nat.lt_of_le_of_lt (Nat.le_add_right _ _) hr.units
abbrev n_law : List Str := ["_law_script", "_law_tape", "_law_turn", "_law_thing", "_law_due", "_law_kind", "_law_row", "_law_value", "_law_rightly", "_law_name", "_law_letters", "_law_k", "_law_one", "_law_sign"]
theorem sc_law : FnScope n_law ["_law_script"] (defScope sLaw) := ⟨rfl, rfl, rfl, by decide +kernel, rfl, by decide +kernel, by decide +kernel⟩
theorem ok_law {f : Addr} {fd : FuncData} (F : Fun K "law" "law" sLaw f fd) (B : Blt mg) (D : Defs P w K mg base) : FnOk P w K mg base CX0 4 f fd ["_law_script"] (spLaw K) := by
  refine F.ok sc_law (fun vs H Q E h => ?_) (fun cdv A outer s H vs Q E hr h => ?_)
  · obtain ⟨a, ns, rfl, _⟩ := h
    rfl
  · obtain ⟨a, ns, rfl, hS, hlen, k⟩ := h
    have hr1 : Room 1 _ := hr.mono (by decide)
    have hr2 : Room 2 _ := hr.mono (by decide)
    refine ⟨_, (pss_cons (ps_set (i := 1) sc_law.nd rfl (Or.inr rfl) (pe_dn D.beg hr1 (by rfl) (pa_cons (pv 0) pa_nil)))
      (pss_cons (ps_for PassesOwn.never rfl (pi_range1 (by rfl) B.range (pa_cons pe_int pa_nil)) (pg_name (i := 2) sc_law.nd rfl (Or.inl rfl))
          (pss_cons (ps_set (i := 3) sc_law.nd rfl (Or.inr rfl) (pe_dn D.pick hr2 (by rfl) (pa_cons (pv 1) (pa_cons (pe_lst (pa_cons (pe_dn D.odd hr (by rfl) (pa_cons (pv 1) pa_nil)) (pa_cons (pe_dn D.text hr (by rfl) (pa_cons (pv 1) (pa_cons pe_int pa_nil))) (pa_cons (pe_op op_sub (pe_dn D.draw hr1 (by rfl) (pa_cons (pv 1) (pa_cons (pe_op op_pow pe_int pe_int) pa_nil))) pe_int) (pa_cons (pe_op op_add (pe_op op_pow pe_int pe_int) (pe_dn D.draw hr1 (by rfl) (pa_cons (pv 1) (pa_cons pe_int pa_nil)))) pa_nil))))) pa_nil))))
          (pss_cons (ps_set (i := 4) sc_law.nd rfl (Or.inl rfl) (pe_dn D.here hr1 (by rfl) (pa_cons (pv 3) pa_nil)))
          (pss_cons (ps_if (pt_cmpR op_ne (pe_callB call_repr_bool (by rfl) B.repr boot_repr (pa_cons (pe_dn D.value hr2 (by rfl) (pa_cons (pv 3) pa_nil)) pa_nil)) (pe_callB call_repr_bool (by rfl) B.repr boot_repr (pa_cons (pv 4) pa_nil)) (nomark _)) (pss_one (ps_ret pe_bl)) pss_nil)
          (pss_cons (ps_set (i := 5) sc_law.nd rfl (Or.inl rfl) (pe_ifExp (pt_val (pe_callB call_isi (by rfl) B.isi boot_isi (pa_cons (pv 3) (pa_cons (pe_bltn (v := .ty "str") (by rfl) B.str boot_str rfl) pa_nil)))) pe_str pe_str))
          (C8.pss_cut (ps_if (pw_and (pt_val (pv 4)) (pw_and1 (pt_cmpR op_ne (pe_dn D.kind hr1 (by rfl) (pa_cons (pv 3) pa_nil)) (pe_ifExp (pt_cmpR op_isN (pv 3) pe_non (nomark _)) pe_non (pv 5)) (nomark _)))).pt (pss_one (ps_ret pe_bl)) pss_nil)
          (pss_cons (ps_set (i := 6) sc_law.nd rfl (Or.inl rfl) (pe_callTy call_tuple_of (by rfl) B.tuple boot_tuple (pa_cons (pe_lc (own := [("_law_k", 11)]) (g := gName 11) (tt := tYes) rfl sc_law.nd (pi_range1 (by rfl) B.range (pa_cons (pe_dn D.draw hr1 (by rfl) (pa_cons (pv 1) (pa_cons pe_int pa_nil))) pa_nil)) (blkOk_by (N := n_law) (sc := defScope sLaw) (by decide +kernel)) (fun _ _ _ _ _ => pg_name (i := 11) sc_law.nd rfl (Or.inl rfl)) (fun _ _ _ _ _ => pts_nil) (fun _ _ _ _ _ => (pe_dn D.pick hr2 (by rfl) (pa_cons (pv 1) (pa_cons (pe_lst (pa_cons (pv 3) (pa_cons pe_non (pa_cons pe_int (pa_cons pe_str (pa_cons (pe_dn D.odd hr (by rfl) (pa_cons (pv 1) pa_nil)) pa_nil)))))) pa_nil))))) pa_nil)))
          (pss_one (ps_for PassesOwn.never rfl (pi_tup (pe_tup (pa_cons (pv 6) (pa_cons (pe_callTy call_list_of (by rfl) B.list boot_list (pa_cons (pv 6) pa_nil)) (pa_cons (pv 3) pa_nil))))) (pg_name (i := 7) sc_law.nd rfl (Or.inl rfl))
            (C8.pss_cut (ps_set (i := 8) sc_law.nd rfl (Or.inl rfl) (pe_and (pe_callB call_isi (by rfl) B.isi boot_isi (pa_cons (pv 7) (pa_cons (pe_bltn (v := .ty "tuple") (by rfl) B.tuple boot_tuple rfl) pa_nil))) (pe_one (pe_cmpR (op_eqNil (hu64 hr)) (pe_lc (own := [("_law_one", 12)]) (g := gName 12) rfl sc_law.nd (pi_tup (pv 7)) (blkOk_by (N := n_law) (sc := defScope sLaw) (by decide +kernel)) (fun _ _ _ _ _ => pg_name (i := 12) sc_law.nd rfl (Or.inl rfl)) (fun _ _ _ _ _ => pts_one (pt_not (pt_val (pe_dn D.here hr1 (by rfl) (pa_cons (pv 12) pa_nil))))) (fun _ _ _ _ _ => (pv 12))) (pe_lst pa_nil) (nomark _)))))
            (pss_one (ps_if (pt_cmpR op_ne (pe_callB call_repr_bool (by rfl) B.repr boot_repr (pa_cons (pe_dn D.row hr (by rfl) (pa_cons (pv 7) pa_nil)) pa_nil)) (pe_callB call_repr_bool (by rfl) B.repr boot_repr (pa_cons (pv 8) pa_nil)) (nomark _)) (pss_one (ps_ret pe_bl)) pss_nil))))))))))))
      (pss_cons (ps_for PassesOwn.never rfl (pi_range1 (by rfl) B.range (pa_cons pe_int pa_nil)) (pg_name (i := 2) sc_law.nd rfl (Or.inl rfl))
          (pss_cons (ps_set (i := 9) sc_law.nd rfl (Or.inl rfl) (pe_join pe_str (pe_lc (own := [("_law_k", 11)]) (g := gName 11) (tt := tYes) rfl sc_law.nd (pi_range1 (by rfl) B.range (pa_cons (pe_dn D.pick hr2 (by rfl) (pa_cons (pv 1) (pa_cons (pe_lst (pa_cons pe_int (pa_cons pe_int (pa_cons pe_int (pa_cons pe_int (pa_cons pe_int (pa_cons pe_int pa_nil))))))) pa_nil))) pa_nil)) (blkOk_by (N := n_law) (sc := defScope sLaw) (by decide +kernel)) (fun _ _ _ _ _ => pg_name (i := 11) sc_law.nd rfl (Or.inl rfl)) (fun _ _ _ _ _ => pts_nil) (fun _ _ _ _ _ => (pe_dn D.pick hr2 (by rfl) (pa_cons (pv 1) (pa_cons pe_str pa_nil)))))))
          (pss_cons (ps_set (i := 9) sc_law.nd rfl (Or.inl rfl) (pe_dn D.pick hr2 (by rfl) (pa_cons (pv 1) (pa_cons (pe_lst (pa_cons (pv 9) (pa_cons (pv 9) (pa_cons (pe_dn D.pick hr2 (by rfl) (pa_cons (pv 1) (pa_cons (pe_dn0 D.keys hr1 (by rfl)) pa_nil))) (pa_cons pe_str (pa_cons pe_str (pa_cons (pe_op op_add_str (pe_slice sl_str (pv 9) po_none (po_some pe_int)) pe_str) (pa_cons (pe_op op_add_str (pe_slice sl_str (pv 9) po_none (po_some pe_int)) pe_str) (pa_cons pe_str pa_nil))))))))) pa_nil))))
          (pss_one (ps_for PassesOwn.never rfl (pi_tup (pe_tup (pa_cons (pv 9) (pa_cons (pe_lst (pa_cons (pv 9) pa_nil)) (pa_cons (pe_dn D.odd hr (by rfl) (pa_cons (pv 1) pa_nil)) pa_nil))))) (pg_name (i := 3) sc_law.nd rfl (Or.inr rfl))
            (C8.pss_cut (ps_set (i := 10) sc_law.nd rfl (Or.inl rfl) (pe_and (pe_callB call_isi (by rfl) B.isi boot_isi (pa_cons (pv 3) (pa_cons (pe_bltn (v := .ty "str") (by rfl) B.str boot_str rfl) pa_nil))) (pe_one (pe_cmpR (op_eqNil (hu64 hr)) (pe_lc (own := [("_law_sign", 13)]) (g := gName 13) rfl sc_law.nd (pi_str (pv 3)) (blkOk_by (N := n_law) (sc := defScope sLaw) (by decide +kernel)) (fun _ _ _ _ _ => pg_name (i := 13) sc_law.nd rfl (Or.inl rfl)) (fun _ _ _ _ _ => pts_one (pt_not (pt_chain op_le_str op_le_str pe_str (pv 13) pe_str))) (fun _ _ _ _ _ => (pv 13))) (pe_lst pa_nil) (nomark _)))))
            (C8.pss_cut (ps_set (i := 4) sc_law.nd rfl (Or.inl rfl) (pe_and (pv 10) (pe_and (pe_chain op_lt op_lt pe_int (pe_callB call_len (by rfl) B.len PySem.boot_len (pa_cons (pv 3) pa_nil)) pe_int) (pe_and (pe_cmpR op_notIn_seq (pv 3) (pe_dn0 D.keys hr1 (by rfl)) (by with_unfolding_all rfl)) (pe_one (pe_cmpR op_ne (pv 3) pe_str (nomark _)))))))
            (pss_one (ps_if (pt_cmpR op_ne (pe_callB call_repr_bool (by rfl) B.repr boot_repr (pa_cons (pe_dn D.name hr1 (by rfl) (pa_cons (pv 3) pa_nil)) pa_nil)) (pe_callB call_repr_bool (by rfl) B.repr boot_repr (pa_cons (pv 4) pa_nil)) (nomark _)) (pss_one (ps_ret pe_bl)) pss_nil)))))))))
      (pss_one (ps_ret pe_bl))))), ?_⟩
    refine ⟨_, rfl, a, ns, rfl, hS, fun d H0 hd0 T0 s0 => ?_⟩
    refine ⟨30, rfl, by decide, by decide, for_range (n := 30) (fun i σ H1 => ∃ v2 v3 v4 v5 v6 v7 v8 p, σ = [some (.ref a), some (.ref d), v2, v3, v4, v5, v6, v7, v8, none, none, none, none, none] ∧ Tape H1 d p ∧ p ≤ 3000 * (i : Int)) ⟨none, none, none, none, none, none, none, 0, rfl, T0, by omega⟩ ?_ ?_⟩
    · rintro i σ H1 hi ⟨v2, v3, v4, v5, v6, v7, v8, p, rfl, T1, hp⟩
      -- thing
      refine ⟨_, rfl, _, rfl, d, p, rfl, T1, by omega, fun x1 p1 H2 ox T2 hp1 o1 => ⟨_, rfl, d, 42, p1, rfl, by decide, by decide, T2, by omega, fun z p2 H3 hz _ T3 hp2 o2 => ⟨_, rfl, _, _, rfl, rfl, ⟨by decide, by decide, by decide⟩, d, _, p2, rfl, (by show (0 : Int) < 10 ^ (6 : Int).toNat; decide), (by show (10 : Int) ^ (6 : Int).toNat < 1073741824; decide), T3, by omega, fun n3 p3 H4 _ _ T4 hp3 o3 => ?_⟩⟩⟩
      refine ⟨_, _, rfl, rfl, _, _, rfl, rfl, ⟨by decide, by decide, by decide⟩, _, rfl, d, 9, p3, rfl, by decide, by decide, T4, by omega, fun n4 p4 H5 _ _ T5 hp4 o4 => ⟨_, _, rfl, rfl, by show 4 ≤ sizeLine; decide, fun l hl => ?_⟩⟩
      refine ⟨d, .ref l, _, p4, rfl, T5.new hl _, by omega, .inl ⟨l, rfl, SqL.of upd_same⟩, (by intro q; cases q), by show 4 < 1073741824; decide, fun x p5 H6 hx T6 hp5 o5 => ?_⟩
      have hxV : V2 d H6 x := by
        simp only [List.mem_cons, List.not_mem_nil, or_false] at hx
        rcases hx with rfl | rfl | rfl | rfl
        · exact ((((ox.off o2).off o3).off o4).off ((Off.refl _ _).new hl _)).off o5
        · exact hz
        · exact trivial
        · exact trivial
      -- due, is_value
      refine ⟨_, rfl, d, x, rfl, hxV.one, fun H7 s7 => ?_⟩
      refine ⟨_, rfl, d, x, rfl, hxV.one.off (.of_same s7), fun H8 s8 => ⟨_, rfl, _, rfl, _, rfl, rfl, _, rfl, iteNS rfl ?_⟩⟩
      have hx8 : V2 d H8 x := hxV.off (.of_same (s7.trans s8))
      have ty8 := hx8.one.ty (K := K)
      refine ⟨_, rfl, x, .ty "str", .type (vTy H8 x), .type "str", _, rfl, .ty _, ty8.1, kit_ty (kit_str _ ty8.2), _, rfl, ?_⟩
      rw [ty_str hx8.one]
      refine sel_one ?_
      refine ⟨fun σ' H9 => σ' = [some (.ref a), some (.ref d), some (.int (0 + (i : Int))), some x, some (.bl (valB x)), some (.str (if isStr x = true then "text" else "whole")), v6, v7, v8, none, none, none, none, none] ∧ Same H8 H9, ?_, ?_⟩
      · refine ⟨_, rfl, _, rfl, ?_⟩
        refine ite2 (fun g => ?_) (fun g => ?_)
        · refine ⟨_, rfl, d, x, rfl, hx8.one, fun H9 s9 => ⟨_, rfl, rfl, _, rfl, ?_⟩⟩
          cases x with
          | non => exact iteT ⟨rfl, _, rfl, iteNS rfl ⟨rfl, s9⟩⟩
          | int _ => exact iteF ⟨_, rfl, rfl, _, rfl, iteNS rfl ⟨rfl, s9⟩⟩
          | str _ => exact iteF ⟨_, rfl, rfl, _, rfl, iteNS rfl ⟨rfl, s9⟩⟩
          | bl _ => cases g
          | ref _ => cases g
          | byt _ => cases g
          | flt _ => cases g
          | ty _ => cases g
        · exact iteF ⟨rfl, Same.refl _⟩
      rintro σ' H9 ⟨rfl, s9⟩
      have T9 : Tape H9 d p5 := T6.same (s7.trans (s8.trans s9))
      have hx9 : V2 d H9 x := hx8.off (.of_same s9)
      -- row
      refine ⟨_, rfl, d, 4, p5, rfl, by decide, by decide, T9, by omega, fun n p6 H10 n0 n1 T10 hp6 o10 => ⟨n, rfl, by omega, by omega, fun D hD => ?_⟩⟩
      have nD : d ≠ D := T10.is.ne hD |>.symm
      refine lc_it walk_range (fun i2 H11 => ∃ (p7 : Int) (ys : List V), Tape H11 d p7 ∧ p7 ≤ p6 + 2 * i2 ∧ Off H10 H11 d ∧ H11 D = some (.lst ys) ∧ ys.length = i2 ∧ ∀ y ∈ ys, V2 d H11 y)
        ⟨p6, [], T10.new hD _, by omega, (Off.refl _ _).new hD _, upd_same, rfl, fun _ h => (List.not_mem_nil h).elim⟩ (fun _ _ _ _ => trivial) ?_ ?_
      · rintro i2 y H11 H12 hi2 ⟨p7, ys, T11, hp7, o11, hD11, hys, hyV⟩ ⟨rfl, rfl⟩
        refine ⟨rfl, ?_⟩
        unfold tYes
        refine iteT ?_
        have hx11 : V2 d H12 x := (hx9.off o10).off o11
        refine ⟨_, rfl, _, rfl, _, rfl, d, p7, rfl, T11, by omega, fun x2 p8 H13 ox2 T13 hp8 o13 => ⟨by show 5 ≤ sizeLine; decide, fun l hl => ?_⟩⟩
        refine ⟨d, .ref l, _, p8, rfl, T13.new hl _, by omega, .inl ⟨l, rfl, SqL.of upd_same⟩, (by intro q; cases q), by show 5 < 1073741824; decide, fun y p9 H14 hy T14 hp9 o14 => ?_⟩
        have oo : Off H12 H14 d := o13.trans (((Off.refl _ _).new hl _).trans o14)
        have hy2 : V2 d H14 y := by
          simp only [List.mem_cons, List.not_mem_nil, or_false] at hy
          rcases hy with rfl | rfl | rfl | rfl | rfl
          · exact hx11.off oo
          · exact trivial
          · exact trivial
          · exact TxOk.of (by decide +kernel)
          · exact (ox2.off ((Off.refl _ _).new hl _)).off o14
        have hD14 := oo _ _ hD11 nD.symm
        refine ⟨_, hD14, small1000 (by omega), p9, ys ++ [y], T14.fresh T10 (o11.trans oo) hD _, by omega, (o11.trans oo).fresh hD nD _, upd_same, by rw [List.length_append, hys]; rfl, fun y' hy' => ?_⟩
        rcases List.mem_append.mp hy' with h | h
        · exact ((hyV y' h).off oo).lst hD14 _
        · rw [List.mem_singleton.mp h]
          exact hy2.lst hD14 _
      rintro H11 ⟨p7, ys, T11, hp7, o11, hD11, hys, hyV⟩
      refine ⟨D, ys, rfl, .inl ⟨SqL.of hD11, fun r hr => ?_⟩⟩
      -- the three things
      refine ⟨_, rfl, _, rfl, r, ys, rfl, .inr (SqT.of upd_same), fun l hl => ⟨_, rfl, by show 3 ≤ sizeLine; decide, fun t ht => ?_⟩⟩
      have nrl : r ≠ l := ne_of_none upd_same hl
      have nrt : r ≠ t := ne_of_none (by rw [upd_ne nrl]; exact upd_same) ht
      have nlt : l ≠ t := ne_of_none upd_same ht
      have sN : Same H11 (L2.upd (L2.upd (L2.upd H11 r (.tup ys)) l (.lst ys)) t (.tup [.ref r, .ref l, x])) := (same_new hr _).trans ((same_new hl _).trans (same_new ht _))
      have hd11 := T11.is
      refine ⟨t, rfl, ⟨_, SqT.of upd_same⟩, for_tup (K := K) (a := t) (xs := [.ref r, .ref l, x]) (fun i2 σ H16 => ∃ v7 v8, σ = [some (.ref a), some (.ref d), some (.int (0 + (i : Int))), some x, some (.bl (valB x)), some (.str (if isStr x = true then "text" else "whole")), some (.ref r), v7, v8, none, none, none, none, none] ∧
          Same (L2.upd (L2.upd (L2.upd H11 r (.tup ys)) l (.lst ys)) t (.tup [.ref r, .ref l, x])) H16) ⟨v7, v8, rfl, Same.refl _⟩ (fun i2 σ H16 _ ⟨_, _, _, h⟩ => SqT.of (h _ _ upd_same)) ?_ ?_⟩
      · rintro i2 v σ H16 hi2 ⟨v7, v8, rfl, s16⟩
        have hv : V2 d H16 v := by
          have hv := List.mem_of_getElem? hi2
          simp only [List.mem_cons, List.not_mem_nil, or_false] at hv
          rcases hv with rfl | rfl | rfl
          · exact ⟨hd11.ne hr, .inr (.inl ⟨ys, s16 _ _ (by rw [upd_ne nrt, upd_ne nrl]; exact upd_same), by omega, fun y hy => (hyV y hy).one.off (.of_same (sN.trans s16))⟩)⟩
          · exact ⟨(hd11.same (same_new hr _)).ne hl, .inl ⟨ys, s16 _ _ (by rw [upd_ne nlt]; exact upd_same)⟩⟩
          · exact ((hx9.off o10).off o11).off (.of_same (sN.trans s16))
        have ty16 := hv.one.ty (K := K)
        refine ⟨fun σ' H17 => σ' = [some (.ref a), some (.ref d), some (.int (0 + (i : Int))), some x, some (.bl (valB x)), some (.str (if isStr x = true then "text" else "whole")), some (.ref r), some v, some (.bl (rowB H16 v)), none, none, none, none, none] ∧ Same H16 H17, ?_, ?_⟩
        · refine ⟨_, rfl, v, .ty "tuple", .type (vTy H16 v), .type "tuple", _, rfl, .ty _, ty16.1, kit_ty (kit_tuple _ ty16.2), _, rfl, ?_⟩
          cases v with
          | ref b =>
            obtain ⟨n, ⟨xs, h⟩ | ⟨xs, h, hl2, g⟩ | ⟨kvs, h⟩⟩ := hv
            · have e : vTy H16 (.ref b) = "list" := by unfold vTy; simp only [h]
              have er : rowB H16 (.ref b) = false := by unfold rowB; simp only [h]
              rw [e, er]
              exact iteF ⟨rfl, Same.refl _⟩
            · have e : vTy H16 (.ref b) = "tuple" := by unfold vTy; simp only [h]
              have er : rowB H16 (.ref b) = xs.all valB := by unfold rowB; simp only [h]
              rw [e, er]
              refine iteT ⟨_, rfl, b, rfl, ⟨_, SqT.of h⟩, fun D2 hD2 => ?_⟩
              refine lc_it (walk_tup (xs := xs)) (fun i3 H18 => Same H16 H18 ∧ H18 D2 = some (.lst ((xs.take i3).filter fun y => !valB y))) ⟨same_new hD2 _, upd_same⟩ (fun i3 H18 _ ⟨s18, _⟩ => SqT.of (s18 _ _ h)) ?_ ?_
              · rintro i3 y H18 H19 hi3 ⟨s18, hD18⟩ ⟨rfl, hy⟩
                refine ⟨rfl, _, rfl, d, y, rfl, (g y (List.mem_of_getElem? hy)).off (.of_same s18), fun H20 s20 => ⟨_, rfl, ?_⟩⟩
                cases gv : valB y with
                | true =>
                  refine iteF ⟨s18.trans s20, ?_⟩
                  rw [s20 _ _ hD18, List.take_add_one, hy, List.filter_append]
                  simp only [Option.toList_some, List.filter_cons, gv, Bool.not_true, List.filter_nil, if_neg Bool.false_ne_true, List.append_nil]
                | false =>
                  refine iteT ⟨_, rfl, _, s20 _ _ hD18, ?_, fun q o e => by rw [upd_ne (ne_of_none e hD2)]; exact s20 _ _ (s18 _ _ e), ?_⟩
                  · refine small1000 (Nat.le_trans (List.length_filter_le _ _) ?_)
                    rw [List.length_take]
                    omega
                  · rw [upd_same, List.take_add_one, hy, List.filter_append]
                    simp only [Option.toList_some, List.filter_cons, gv, Bool.not_false, List.filter_nil, if_pos]
              · rintro H18 ⟨s18, hD18⟩
                rw [List.take_length] at hD18
                refine ⟨by decide, fun q hq => ⟨D2, q, _, rfl, rfl, SqL.of (by rw [upd_ne (ne_of_none hD18 hq)]; exact hD18), SqL.of upd_same, ?_⟩⟩
                rw [all_filter]
                exact ⟨rfl, s18.trans (same_new hq _)⟩
            · have e : vTy H16 (.ref b) = "dict" := by unfold vTy; simp only [h]
              have er : rowB H16 (.ref b) = false := by unfold rowB; simp only [h]
              rw [e, er]
              exact iteF ⟨rfl, Same.refl _⟩
          | non => exact iteF ⟨rfl, Same.refl _⟩
          | bl _ => exact iteF ⟨rfl, Same.refl _⟩
          | int _ => exact iteF ⟨rfl, Same.refl _⟩
          | str _ => exact iteF ⟨rfl, Same.refl _⟩
          | byt _ => exact hv.elim
          | flt _ => exact hv.elim
          | ty _ => exact hv.elim
        · rintro σ' H17 ⟨rfl, s17⟩
          refine ⟨_, rfl, d, v, rfl, hv.off (.of_same s17), fun H18 s18 => ⟨_, rfl, _, rfl, _, rfl, rfl, _, rfl, ?_⟩⟩
          rw [rowB_same hv s17]
          exact iteNS rfl ⟨_, _, rfl, s16.trans (s17.trans s18)⟩
      · rintro σ H16 ⟨v7, v8, rfl, s16⟩
        exact ⟨_, _, _, _, _, _, _, p7, rfl, T11.same (sN.trans s16), by omega⟩
    · rintro σ H1 ⟨v2, v3, v4, v5, v6, v7, v8, p0, rfl, T1, hp0⟩
      refine ⟨20, rfl, by decide, by decide, for_range (n := 20) (fun i σ H2 => ∃ v2 v3 v4 v9 v10 p, σ = [some (.ref a), some (.ref d), v2, v3, v4, v5, v6, v7, v8, v9, v10, none, none, none] ∧ Tape H2 d p ∧ p ≤ 100000 + 100 * (i : Int)) ⟨v2, v3, v4, none, none, p0, rfl, T1, by omega⟩ ?_ ?_⟩
      · rintro i σ H2 hi ⟨v2, v3, v4, v9, v10, p, rfl, T2, hp⟩
        -- name
        refine ⟨⟨_, rfl⟩, _, rfl, by show 6 ≤ sizeLine; decide, fun l hl => ⟨d, .ref l, _, p, rfl, T2.new hl _, by omega, .inl ⟨l, rfl, SqL.of upd_same⟩, (by intro q; cases q), by show 6 < 1073741824; decide, fun x p3 H3 hx T3 hp3 o3 => ?_⟩⟩
        obtain ⟨j, rfl, hj0, hj1⟩ : ∃ j : Int, x = .int j ∧ 0 ≤ j ∧ j < 15 := by
          simp only [List.mem_cons, List.not_mem_nil, or_false] at hx
          rcases hx with rfl | rfl | rfl | rfl | rfl | rfl <;> exact ⟨_, rfl, by decide, by decide⟩
        refine ⟨j, rfl, by omega, by omega, fun D hD => ?_⟩
        have nD : d ≠ D := T3.is.ne hD |>.symm
        refine lc_it walk_range (fun i2 H4 => ∃ (p4 : Int) (cs : List Nat), Tape H4 d p4 ∧ p4 ≤ p3 + i2 ∧ Off H3 H4 d ∧ H4 D = some (.lst ((cs.map fun c => (⟨#[c]⟩ : Str)).map V.str)) ∧ cs.length = i2 ∧ ∀ c ∈ cs, c < 128 ∧ c ≠ 37)
          ⟨p3, [], T3.new hD _, by omega, (Off.refl _ _).new hD _, upd_same, rfl, fun _ h => (List.not_mem_nil h).elim⟩ (fun _ _ _ _ => trivial) ?_ ?_
        · rintro i2 x H4 H5 hi2 ⟨p4, cs, T4, hp4, o4, hD4, hcs, hmem⟩ ⟨rfl, rfl⟩
          refine ⟨rfl, ?_⟩
          unfold tYes
          refine iteT ?_
          refine ⟨_, rfl, d, .str "abyz", _, p4, rfl, T4, by omega, .inr (.inr ⟨"abyz", rfl, by decide +kernel, rfl⟩), by decide +kernel, by decide +kernel, fun x p5 H6 hx T6 hp5 o6 => ?_⟩
          obtain ⟨c, hc, rfl⟩ := List.mem_map.mp hx
          have hc2 : c < 128 ∧ c ≠ 37 := (by decide +kernel : ∀ c ∈ ("abyz" : Str).cps.toList, c < 128 ∧ c ≠ 37) c hc
          have hD6 := o6 _ _ hD4 nD.symm
          refine ⟨_, hD6, small1000 (by rw [List.length_map, List.length_map]; omega), p5, cs ++ [c], T6.fresh T3 (o4.trans o6) hD _, by omega, (o4.trans o6).fresh hD nD _, ?_, ?_, ?_⟩
          · rw [upd_same, List.map_append, List.map_append]; rfl
          · rw [List.length_append, hcs]; rfl
          · intro c' h'
            rcases List.mem_append.mp h' with h' | h'
            · exact hmem c' h'
            · rw [List.mem_singleton.mp h']; exact hc2
        rintro H4 ⟨p4, cs, T4, hp4, o4, hD4, hcs, hmem⟩
        refine ⟨_, D, cs.map fun c => (⟨#[c]⟩ : Str), rfl, rfl, .inl (SqL.of hD4), ?_, ?_⟩
        · rw [sum_ones, List.length_map]
          have e0 : ("" : Str).length = 0 := by decide +kernel
          rw [e0]; omega
        have hnm : TxOk (Txt.join ("" : Str) (cs.map fun c => (⟨#[c]⟩ : Str))) ∧ (Txt.join ("" : Str) (cs.map fun c => (⟨#[c]⟩ : Str))).length ≤ 100 := by
          have hl : (Txt.join ("" : Str) (cs.map fun c => (⟨#[c]⟩ : Str))).length ≤ 100 := by rw [len_of, join_signs]; omega
          exact ⟨⟨by omega, strOk_of (by rw [join_signs]; intro c hc; have := (hmem c hc).1; omega), by rw [join_signs]; exact fun c hc => (hmem c hc).2⟩, hl⟩
        generalize Txt.join ("" : Str) (cs.map fun c => (⟨#[c]⟩ : Str)) = nm at hnm
        obtain ⟨hnm, hnl⟩ := hnm
        -- the name that is taken
        refine ⟨_, rfl, _, rfl, _, rfl, _, rfl, rfl, fun q hq => ?_⟩
        refine ⟨d, .ref q, _, p4, rfl, T4.new hq _, by omega, .inl ⟨q, rfl, SqL.of upd_same⟩, by decide +kernel, by decide +kernel, fun x p5 H5 hx T5 hp5 o5 => ?_⟩
        obtain ⟨kw, hkw, rfl⟩ := List.mem_map.mp hx
        have hkwt : TxOk kw := TxOk.of (List.all_eq_true.mp kw_ok kw hkw)
        have c3 := hnm.cut none (some 3)
        have c4 := hnm.cut none (some 4)
        have l3 : (cutS nm none (some 3)).length ≤ 100 := Nat.le_trans (cutS_length _ _ _) hnl
        have l4 : (cutS nm none (some 4)).length ≤ 100 := Nat.le_trans (cutS_length _ _ _) hnl
        have eA : ("A" : Str).length = 1 := by decide +kernel
        have e1 : ("1" : Str).length = 1 := by decide +kernel
        refine ⟨_, rfl, _, rfl, nm, rfl, line1000 hnm.len, _, _, rfl, rfl, by rw [eA]; exact line1000 (by omega), _, rfl, _, rfl, nm, rfl, line1000 hnm.len, _, _, rfl, rfl, by rw [e1]; exact line1000 (by omega), by show 8 ≤ sizeLine; decide, fun l2 hl2 => ?_⟩
        refine ⟨d, .ref l2, _, p5, rfl, T5.new hl2 _, by omega, .inl ⟨l2, rfl, SqL.of upd_same⟩, (by intro q; cases q), by show 8 < 1073741824; decide, fun x p6 H6 hx T6 hp6 o6 => ?_⟩
        obtain ⟨tx, rfl, htx⟩ : ∃ tx : Str, x = .str tx ∧ TxOk tx := by
          simp only [List.mem_cons, List.not_mem_nil, or_false] at hx
          rcases hx with rfl | rfl | rfl | rfl | rfl | rfl | rfl | rfl
          · exact ⟨_, rfl, hnm⟩
          · exact ⟨_, rfl, hnm⟩
          · exact ⟨_, rfl, hkwt⟩
          · exact ⟨_, rfl, TxOk.of (by decide +kernel)⟩
          · exact ⟨_, rfl, TxOk.of (by decide +kernel)⟩
          · exact ⟨_, rfl, c3.app (TxOk.of (by decide +kernel)) (by omega)⟩
          · exact ⟨_, rfl, c4.app (TxOk.of (by decide +kernel)) (by omega)⟩
          · exact ⟨_, rfl, TxOk.of (by decide +kernel)⟩
        -- the three things
        refine ⟨_, rfl, _, rfl, by show 1 ≤ sizeLine; decide, fun l7 hl7 => ⟨_, rfl, d, p6, rfl, T6.new hl7 _, by omega, fun x7 p7 H7 ox T7 hp7 o7 => ⟨by show 3 ≤ sizeLine; decide, fun t ht => ?_⟩⟩⟩
        have h7 : H7 l7 = some (.lst [.str tx]) := o7 _ _ upd_same (T6.is.ne hl7)
        refine ⟨t, rfl, ⟨_, SqT.of upd_same⟩, for_tup (K := K) (a := t) (xs := [.str tx, .ref l7, x7]) (fun i2 σ H8 => ∃ v3 v4 v10, σ = [some (.ref a), some (.ref d), some (.int (0 + (i : Int))), v3, v4, v5, v6, v7, v8, some (.str tx), v10, none, none, none] ∧
            Same (L2.upd H7 t (.tup [.str tx, .ref l7, x7])) H8) ⟨v3, v4, v10, rfl, Same.refl _⟩ (fun i2 σ H8 _ ⟨_, _, _, _, h⟩ => SqT.of (h _ _ upd_same)) ?_ ?_⟩
        · rintro i2 v σ H8 hi2 ⟨v3, v4, v10, rfl, s8⟩
          have hv : V2 d H8 v := by
            have hv := List.mem_of_getElem? hi2
            simp only [List.mem_cons, List.not_mem_nil, or_false] at hv
            rcases hv with rfl | rfl | rfl
            · exact htx
            · exact ⟨T6.is.ne hl7, .inl ⟨_, s8 _ _ (same_new ht _ _ _ h7)⟩⟩
            · exact ox.off (.of_same ((same_new ht _).trans s8))
          have ty8 := hv.one.ty (K := K)
          refine ⟨fun σ' H9 => σ' = [some (.ref a), some (.ref d), some (.int (0 + (i : Int))), some v, v4, v5, v6, v7, v8, some (.str tx), some (.bl (letB v)), none, none, none] ∧ Same H8 H9, ?_, ?_⟩
          · refine ⟨_, rfl, v, .ty "str", .type (vTy H8 v), .type "str", _, rfl, .ty _, ty8.1, kit_ty (kit_str _ ty8.2), _, rfl, ?_⟩
            rw [ty_str hv.one]
            cases v with
            | str z =>
              have hz : TxOk z := hv
              refine iteT ⟨_, rfl, z, rfl, fun D2 hD2 => ?_⟩
              refine lc_it walk_str (fun i3 H9 => Same H8 H9 ∧ H9 D2 = some (.lst (((z.cps.toList.take i3).filter fun c => !lowC c).map fun c => V.str ⟨#[c]⟩))) ⟨same_new hD2 _, upd_same⟩ (fun _ _ _ _ => trivial) ?_ ?_
              · rintro i3 y H9 H10 hi3 ⟨s9, hD9⟩ ⟨rfl, c, hc, rfl⟩
                have e : z.cps.toList[i3]? = some c := by rw [Array.getElem?_toList]; exact hc
                have yes : lowC c = true → Same H8 H10 ∧ H10 D2 = some (.lst (((z.cps.toList.take (i3 + 1)).filter fun c => !lowC c).map fun c => V.str ⟨#[c]⟩)) := fun q => by
                  refine ⟨s9, ?_⟩
                  rw [hD9, List.take_add_one, e, List.filter_append]
                  simp only [Option.toList_some, List.filter_cons, q, Bool.not_true, List.filter_nil, if_neg Bool.false_ne_true, List.append_nil]
                have no : lowC c = false → ∃ acc, H10 D2 = some (.lst acc) ∧ acc.length < sizeLine ∧ Same H8 (L2.upd H10 D2 (.lst (acc ++ [V.str ⟨#[c]⟩]))) ∧ (L2.upd H10 D2 (.lst (acc ++ [V.str ⟨#[c]⟩]))) D2 = some (.lst (((z.cps.toList.take (i3 + 1)).filter fun c => !lowC c).map fun c => V.str ⟨#[c]⟩)) := fun q => by
                  refine ⟨_, hD9, ?_, fun q o e => by rw [upd_ne (ne_of_none e hD2)]; exact s9 _ _ e, ?_⟩
                  · refine small1000 ?_
                    rw [List.length_map]
                    refine Nat.le_trans (List.length_filter_le _ _) ?_
                    rw [List.length_take]
                    exact Nat.le_trans (Nat.min_le_left _ _) (Nat.le_of_lt (Nat.lt_of_lt_of_le hi3 hz.len))
                  · rw [upd_same, List.take_add_one, e, List.filter_append]
                    simp only [Option.toList_some, List.filter_cons, q, Bool.not_false, List.filter_nil, if_pos, List.map_append, List.map_cons, List.map_nil]
                refine ⟨rfl, _, rfl, _, _, rfl, rfl, _, rfl, ?_⟩
                rw [low_at cp_a]
                refine ite2 (fun g1 => ?_) (fun g1 => ?_)
                · refine ⟨_, _, rfl, rfl, _, rfl, ?_⟩
                  rw [high_at cp_z]
                  cases g2 : decide (c ≤ 122) with
                  | true => exact iteF (yes (by unfold lowC; rw [g1, g2]; rfl))
                  | false => exact iteT ⟨_, rfl, no (by unfold lowC; rw [g2, Bool.and_false])⟩
                · exact ⟨_, rfl, iteT ⟨_, rfl, no (by unfold lowC; rw [Bool.eq_false_iff.mpr g1]; rfl)⟩⟩
              · rintro H9 ⟨s9, hD9⟩
                have ez : z.cps.toList.take z.cps.size = z.cps.toList := by rw [← Array.length_toList, List.take_length]
                rw [ez] at hD9
                refine ⟨by decide, fun q hq => ⟨D2, q, _, rfl, rfl, SqL.of (by rw [upd_ne (ne_of_none hD9 hq)]; exact hD9), SqL.of upd_same, ?_⟩⟩
                rw [List.isEmpty_map, all_filter]
                exact ⟨rfl, s9.trans (same_new hq _)⟩
            | non => exact iteF ⟨rfl, Same.refl _⟩
            | bl _ => exact iteF ⟨rfl, Same.refl _⟩
            | int _ => exact iteF ⟨rfl, Same.refl _⟩
            | ref _ => exact iteF ⟨rfl, Same.refl _⟩
            | byt _ => exact hv.elim
            | flt _ => exact hv.elim
            | ty _ => exact hv.elim
          rintro σ' H9 ⟨rfl, s9⟩
          refine ⟨fun σ' H10 => σ' = [some (.ref a), some (.ref d), some (.int (0 + (i : Int))), some v, some (.bl (nameV v)), v5, v6, v7, v8, some (.str tx), some (.bl (letB v)), none, none, none] ∧ Same H9 H10, ?_, ?_⟩
          · refine ⟨_, rfl, _, rfl, ?_⟩
            cases v with
            | str z =>
              have hz : TxOk z := hv
              show if z.cps.toList.all lowC = true then _ else _
              cases hl : z.cps.toList.all lowC with
              | false =>
                have e : nameV (.str z) = false := by show nameB z = false; unfold nameB; rw [hl]; simp
                have el : letB (.str z) = false := hl
                rw [e, el]
                exact iteF ⟨rfl, Same.refl _⟩
              | true =>
                have el : letB (.str z) = true := hl
                rw [el]
                refine iteT ⟨_, rfl, .str z, _, rfl, ⟨line1000 hz.len, rfl⟩, _, _, rfl, rfl, _, rfl, ?_⟩
                by_cases h1 : (0 : Int) < z.length
                · rw [decide_eq_true h1]
                  refine iteT ⟨_, _, rfl, rfl, _, rfl, ?_⟩
                  by_cases h2 : (z.length : Int) < 13
                  · rw [decide_eq_true h2]
                    refine iteT ⟨_, rfl, rfl, fun q hq => ⟨q, _, rfl, .inl (SqL.of upd_same), rfl, flat_strs _, _, rfl, ?_⟩⟩
                    rw [inV_strs]
                    have en : nameV (.str z) = (!decide (z = "self") && !decide (z ∈ kwL)) := by
                      show nameB z = _
                      unfold nameB
                      rw [hl, decide_eq_true (show 1 ≤ z.length by omega), decide_eq_true (show z.length ≤ 12 by omega)]
                      simp
                    have ev : decide ((V.str z) = V.str "self") = decide (z = "self") := by
                      by_cases q : z = "self"
                      · rw [q]; simp
                      · rw [decide_eq_false q, decide_eq_false (fun t => q (V.str.inj t))]
                    show if (!decide (z ∈ kwL)) = true then _ else _
                    cases h3 : decide (z ∈ kwL) with
                    | true =>
                      rw [h3] at en
                      rw [en, Bool.not_true, Bool.and_false]
                      exact iteF ⟨rfl, same_new hq _⟩
                    | false =>
                      rw [h3] at en
                      rw [en]
                      refine iteT ⟨_, rfl, rfl, ?_⟩
                      rw [ev, Bool.not_false, Bool.and_true]
                      exact ⟨rfl, same_new hq _⟩
                  · rw [decide_eq_false h2]
                    have e : nameV (.str z) = false := by show nameB z = false; unfold nameB; rw [decide_eq_false (show ¬ z.length ≤ 12 by omega)]; simp
                    rw [e]
                    exact iteF ⟨rfl, Same.refl _⟩
                · rw [decide_eq_false h1]
                  have e : nameV (.str z) = false := by show nameB z = false; unfold nameB; rw [decide_eq_false (show ¬ 1 ≤ z.length by omega)]; simp
                  rw [e]
                  exact iteF ⟨_, rfl, iteF ⟨rfl, Same.refl _⟩⟩
            | non => exact iteF ⟨rfl, Same.refl _⟩
            | bl _ => exact iteF ⟨rfl, Same.refl _⟩
            | int _ => exact iteF ⟨rfl, Same.refl _⟩
            | ref _ => exact iteF ⟨rfl, Same.refl _⟩
            | byt _ => exact hv.elim
            | flt _ => exact hv.elim
            | ty _ => exact hv.elim
          rintro σ' H10 ⟨rfl, s10⟩
          refine ⟨_, rfl, d, v, rfl, (hv.off (.of_same (s9.trans s10))).one, fun H11 s11 => ⟨_, rfl, _, rfl, _, rfl, rfl, _, rfl, iteNS rfl ⟨_, _, _, rfl, s8.trans (s9.trans (s10.trans s11))⟩⟩⟩
        · rintro σ H8 ⟨v3, v4, v10, rfl, s8⟩
          exact ⟨_, _, _, _, _, p7, rfl, T7.same ((same_new ht _).trans s8), by omega⟩
      · rintro σ H2 ⟨v2, v3, v4, v9, v10, p, rfl, T2, hp⟩
        exact k H2
end
end Ask
namespace Ask
open PySem L2
theorem all_mk {l : PySem.W.OpenLaw} {w : World} {K : PySem.W.Frag} {h : Heap} {mg : Str → Option Value} {f1 f2 f3 f4 f5 f6 f7 f8 f9 f10 f11 f12 f13 f14 fa : Addr} (X : K.In h) (G : h.Ns mainGlobals mg) (hfa : mg "law" = some (.ref fa))
    {od1 an1 : Option Addr} {sl1 : Array (Option Value)} {oc1 kV1 dc1 pm1 cd1 ct1 : Value} {od2 an2 : Option Addr} {sl2 : Array (Option Value)} {oc2 kV2 dc2 pm2 cd2 ct2 : Value} {od3 an3 : Option Addr} {sl3 : Array (Option Value)} {oc3 kV3 dc3 pm3 cd3 ct3 : Value} {od4 an4 : Option Addr} {sl4 : Array (Option Value)} {oc4 kV4 dc4 pm4 cd4 ct4 : Value} {od5 an5 : Option Addr} {sl5 : Array (Option Value)} {oc5 kV5 dc5 pm5 cd5 ct5 : Value} {od6 an6 : Option Addr} {sl6 : Array (Option Value)} {oc6 kV6 dc6 pm6 cd6 ct6 : Value} {od7 an7 : Option Addr} {sl7 : Array (Option Value)} {oc7 kV7 dc7 pm7 cd7 ct7 : Value} {od8 an8 : Option Addr} {sl8 : Array (Option Value)} {oc8 kV8 dc8 pm8 cd8 ct8 : Value} {od9 an9 : Option Addr} {sl9 : Array (Option Value)} {oc9 kV9 dc9 pm9 cd9 ct9 : Value} {od10 an10 : Option Addr} {sl10 : Array (Option Value)} {oc10 kV10 dc10 pm10 cd10 ct10 : Value} {od11 an11 : Option Addr} {sl11 : Array (Option Value)} {oc11 kV11 dc11 pm11 cd11 ct11 : Value} {od12 an12 : Option Addr} {sl12 : Array (Option Value)} {oc12 kV12 dc12 pm12 cd12 ct12 : Value} {od13 an13 : Option Addr} {sl13 : Array (Option Value)} {oc13 kV13 dc13 pm13 cd13 ct13 : Value} {od14 an14 : Option Addr} {sl14 : Array (Option Value)} {oc14 kV14 dc14 pm14 cd14 ct14 : Value}
    (a1 : PySem.W.nsIn K mainGlobals "is_whole" = some (some (.ref f1))) (l1 : K.lookup f1 = some ⟨oc1, od1, .func (PySem.W.fnOf "is_whole" "is_whole" (defArgs sWhole) (defBody sWhole) (defScope sWhole) .none kV1 dc1 pm1 an1 cd1 ct1), sl1⟩) (c1 : PySem.W.codeIn K cd1 "is_whole" = true) (k1 : PySem.W.keepIn K (.ref f1) = true)
    (a2 : PySem.W.nsIn K mainGlobals "is_text" = some (some (.ref f2))) (l2 : K.lookup f2 = some ⟨oc2, od2, .func (PySem.W.fnOf "is_text" "is_text" (defArgs sText) (defBody sText) (defScope sText) .none kV2 dc2 pm2 an2 cd2 ct2), sl2⟩) (c2 : PySem.W.codeIn K cd2 "is_text" = true) (k2 : PySem.W.keepIn K (.ref f2) = true)
    (a3 : PySem.W.nsIn K mainGlobals "is_value" = some (some (.ref f3))) (l3 : K.lookup f3 = some ⟨oc3, od3, .func (PySem.W.fnOf "is_value" "is_value" (defArgs sValue) (defBody sValue) (defScope sValue) .none kV3 dc3 pm3 an3 cd3 ct3), sl3⟩) (c3 : PySem.W.codeIn K cd3 "is_value" = true) (k3 : PySem.W.keepIn K (.ref f3) = true)
    (a4 : PySem.W.nsIn K mainGlobals "is_row" = some (some (.ref f4))) (l4 : K.lookup f4 = some ⟨oc4, od4, .func (PySem.W.fnOf "is_row" "is_row" (defArgs sRow) (defBody sRow) (defScope sRow) .none kV4 dc4 pm4 an4 cd4 ct4), sl4⟩) (c4 : PySem.W.codeIn K cd4 "is_row" = true) (k4 : PySem.W.keepIn K (.ref f4) = true)
    (a5 : PySem.W.nsIn K mainGlobals "kind_of" = some (some (.ref f5))) (l5 : K.lookup f5 = some ⟨oc5, od5, .func (PySem.W.fnOf "kind_of" "kind_of" (defArgs sKind) (defBody sKind) (defScope sKind) .none kV5 dc5 pm5 an5 cd5 ct5), sl5⟩) (c5 : PySem.W.codeIn K cd5 "kind_of" = true) (k5 : PySem.W.keepIn K (.ref f5) = true)
    (a6 : PySem.W.nsIn K mainGlobals "is_name" = some (some (.ref f6))) (l6 : K.lookup f6 = some ⟨oc6, od6, .func (PySem.W.fnOf "is_name" "is_name" (defArgs sIsName) (defBody sIsName) (defScope sIsName) .none kV6 dc6 pm6 an6 cd6 ct6), sl6⟩) (c6 : PySem.W.codeIn K cd6 "is_name" = true) (k6 : PySem.W.keepIn K (.ref f6) = true)
    (a7 : PySem.W.nsIn K mainGlobals "_law_begin" = some (some (.ref f7))) (l7 : K.lookup f7 = some ⟨oc7, od7, .func (PySem.W.fnOf "_law_begin" "_law_begin" (defArgs sBegin) (defBody sBegin) (defScope sBegin) .none kV7 dc7 pm7 an7 cd7 ct7), sl7⟩) (c7 : PySem.W.codeIn K cd7 "_law_begin" = true) (k7 : PySem.W.keepIn K (.ref f7) = true)
    (a8 : PySem.W.nsIn K mainGlobals "_law_draw" = some (some (.ref f8))) (l8 : K.lookup f8 = some ⟨oc8, od8, .func (PySem.W.fnOf "_law_draw" "_law_draw" (defArgs sDraw) (defBody sDraw) (defScope sDraw) .none kV8 dc8 pm8 an8 cd8 ct8), sl8⟩) (c8 : PySem.W.codeIn K cd8 "_law_draw" = true) (k8 : PySem.W.keepIn K (.ref f8) = true)
    (a9 : PySem.W.nsIn K mainGlobals "_law_pick" = some (some (.ref f9))) (l9 : K.lookup f9 = some ⟨oc9, od9, .func (PySem.W.fnOf "_law_pick" "_law_pick" (defArgs sPick) (defBody sPick) (defScope sPick) .none kV9 dc9 pm9 an9 cd9 ct9), sl9⟩) (c9 : PySem.W.codeIn K cd9 "_law_pick" = true) (k9 : PySem.W.keepIn K (.ref f9) = true)
    (a10 : PySem.W.nsIn K mainGlobals "_law_odd" = some (some (.ref f10))) (l10 : K.lookup f10 = some ⟨oc10, od10, .func (PySem.W.fnOf "_law_odd" "_law_odd" (defArgs sOdd) (defBody sOdd) (defScope sOdd) .none kV10 dc10 pm10 an10 cd10 ct10), sl10⟩) (c10 : PySem.W.codeIn K cd10 "_law_odd" = true) (k10 : PySem.W.keepIn K (.ref f10) = true)
    (a11 : PySem.W.nsIn K mainGlobals "_law_keywords" = some (some (.ref f11))) (l11 : K.lookup f11 = some ⟨oc11, od11, .func (PySem.W.fnOf "_law_keywords" "_law_keywords" (defArgs sKeys) (defBody sKeys) (defScope sKeys) .none kV11 dc11 pm11 an11 cd11 ct11), sl11⟩) (c11 : PySem.W.codeIn K cd11 "_law_keywords" = true) (k11 : PySem.W.keepIn K (.ref f11) = true)
    (a12 : PySem.W.nsIn K mainGlobals "_law_text" = some (some (.ref f12))) (l12 : K.lookup f12 = some ⟨oc12, od12, .func (PySem.W.fnOf "_law_text" "_law_text" (defArgs sTxt) (defBody sTxt) (defScope sTxt) .none kV12 dc12 pm12 an12 cd12 ct12), sl12⟩) (c12 : PySem.W.codeIn K cd12 "_law_text" = true) (k12 : PySem.W.keepIn K (.ref f12) = true)
    (a13 : PySem.W.nsIn K mainGlobals "_law_is_value_here" = some (some (.ref f13))) (l13 : K.lookup f13 = some ⟨oc13, od13, .func (PySem.W.fnOf "_law_is_value_here" "_law_is_value_here" (defArgs sHere) (defBody sHere) (defScope sHere) .none kV13 dc13 pm13 an13 cd13 ct13), sl13⟩) (c13 : PySem.W.codeIn K cd13 "_law_is_value_here" = true) (k13 : PySem.W.keepIn K (.ref f13) = true)
    (a14 : PySem.W.nsIn K mainGlobals "law" = some (some (.ref f14))) (l14 : K.lookup f14 = some ⟨oc14, od14, .func (PySem.W.fnOf "law" "law" (defArgs sLaw) (defBody sLaw) (defScope sLaw) .none kV14 dc14 pm14 an14 cd14 ct14), sl14⟩) (c14 : PySem.W.codeIn K cd14 "law" = true) (k14 : PySem.W.keepIn K (.ref f14) = true)
    (z0 : PySem.W.nsIn K mainGlobals "len" = some none)    (z1 : PySem.W.nsIn K mainGlobals "int" = some none)    (z2 : PySem.W.nsIn K mainGlobals "str" = some none)    (z3 : PySem.W.nsIn K mainGlobals "isinstance" = some none)    (z4 : PySem.W.nsIn K mainGlobals "all" = some none)    (z5 : PySem.W.nsIn K mainGlobals "range" = some none)    (z6 : PySem.W.nsIn K mainGlobals "repr" = some none)    (z7 : PySem.W.nsIn K mainGlobals "ord" = some none)    (z8 : PySem.W.nsIn K mainGlobals "bool" = some none)    (z9 : PySem.W.nsIn K mainGlobals "tuple" = some none)    (z10 : PySem.W.nsIn K mainGlobals "list" = some none)
    {tm tc tp : Tok} {akw : Addr} {odk : Option Addr} {itk : Array Value} {nk : Nat} {slk : Array (Option Value)} (n1 : PySem.W.nsIn K mainGlobals "MOST_CHARACTERS" = some (some (.int 40 tc))) (n2 : PySem.W.nsIn K mainGlobals "PERCENT" = some (some (.int 37 tp))) (m1 : PySem.W.nsIn K mainGlobals "MOST_LETTERS" = some (some (.int 12 tm))) (m2 : PySem.W.nsIn K mainGlobals "KEYWORDS" = some (some (.ref akw))) (m3 : K.lookup akw = some ⟨.type "tuple", odk, .seq itk nk, slk⟩) (m4 : Vals (kwL.map V.str) itk.toList) (m5 : itk.size ≤ sizeLine) :
    ∃ fd : FuncData, (∀ (s : Shared) (v : Value), BindsTo s fd ⟨[v], []⟩ [("_law_script", v)]) ∧ ∀ base : Heap, K.In base → base.Ns mainGlobals mg → FnOk l.prog w K mg base CX0 4 fa fd ["_law_script"] (spLaw K) := by
  have e := hfa.symm.trans (PySem.W.mg_of X G a14)
  cases e
  have B : Blt mg := ⟨PySem.W.mg_none_of X G z0, PySem.W.mg_none_of X G z1, PySem.W.mg_none_of X G z2, PySem.W.mg_none_of X G z3, PySem.W.mg_none_of X G z4, PySem.W.mg_none_of X G z5, PySem.W.mg_none_of X G z6, PySem.W.mg_none_of X G z7, PySem.W.mg_none_of X G z8, PySem.W.mg_none_of X G z9, PySem.W.mg_none_of X G z10⟩
  have W : Kws K mg := ⟨⟨tm, PySem.W.mg_of X G m1⟩, ⟨akw, PySem.W.mg_of X G m2, fun H => .inr ⟨_, itk, nk, m3, rfl, rfl, m5, m4⟩⟩⟩
  have C : Cst mg := ⟨⟨tc, PySem.W.mg_of X G n1⟩, ⟨tp, PySem.W.mg_of X G n2⟩⟩
  have F1 := fun_mk (st := sWhole) l1 c1 k1
  have b1 := F1.binds (ps := ["thing"]) fun _ _ _ _ _ _ us hl => match us, hl with | [_], _ => rfl
  have F2 := fun_mk (st := sText) l2 c2 k2
  have b2 := F2.binds (ps := ["thing"]) fun _ _ _ _ _ _ us hl => match us, hl with | [_], _ => rfl
  have F3 := fun_mk (st := sValue) l3 c3 k3
  have b3 := F3.binds (ps := ["thing"]) fun _ _ _ _ _ _ us hl => match us, hl with | [_], _ => rfl
  have F4 := fun_mk (st := sRow) l4 c4 k4
  have b4 := F4.binds (ps := ["thing"]) fun _ _ _ _ _ _ us hl => match us, hl with | [_], _ => rfl
  have F5 := fun_mk (st := sKind) l5 c5 k5
  have b5 := F5.binds (ps := ["value"]) fun _ _ _ _ _ _ us hl => match us, hl with | [_], _ => rfl
  have F6 := fun_mk (st := sIsName) l6 c6 k6
  have b6 := F6.binds (ps := ["thing"]) fun _ _ _ _ _ _ us hl => match us, hl with | [_], _ => rfl
  have F7 := fun_mk (st := sBegin) l7 c7 k7
  have b7 := F7.binds (ps := ["_law_script"]) fun _ _ _ _ _ _ us hl => match us, hl with | [_], _ => rfl
  have F8 := fun_mk (st := sDraw) l8 c8 k8
  have b8 := F8.binds (ps := ["_law_tape", "_law_many"]) fun _ _ _ _ _ _ us hl => match us, hl with | [_, _], _ => rfl
  have F9 := fun_mk (st := sPick) l9 c9 k9
  have b9 := F9.binds (ps := ["_law_tape", "_law_items"]) fun _ _ _ _ _ _ us hl => match us, hl with | [_, _], _ => rfl
  have F10 := fun_mk (st := sOdd) l10 c10 k10
  have b10 := F10.binds (ps := ["_law_tape"]) fun _ _ _ _ _ _ us hl => match us, hl with | [_], _ => rfl
  have F11 := fun_mk (st := sKeys) l11 c11 k11
  have b11 := F11.binds (ps := []) fun _ _ _ _ _ _ us hl => match us, hl with | [], _ => rfl
  have F12 := fun_mk (st := sTxt) l12 c12 k12
  have b12 := F12.binds (ps := ["_law_tape", "_law_most"]) fun _ _ _ _ _ _ us hl => match us, hl with | [_, _], _ => rfl
  have F13 := fun_mk (st := sHere) l13 c13 k13
  have b13 := F13.binds (ps := ["_law_thing"]) fun _ _ _ _ _ _ us hl => match us, hl with | [_], _ => rfl
  have F14 := fun_mk (st := sLaw) l14 c14 k14
  refine ⟨PySem.W.fnOf "law" "law" (defArgs sLaw) (defBody sLaw) (defScope sLaw) .none kV14 dc14 pm14 an14 cd14 ct14, fun s v => .of_eq rfl, fun base _ _ => ?_⟩
  have D1 : Dn l.prog w K mg base 1 "is_whole" ["thing"] (spF fun v => .bl (wholeB v)) := ⟨f1, _, PySem.W.mg_of X G a1, k1, b1, ok_is_whole F1 B⟩
  have D2 : Dn l.prog w K mg base 1 "is_text" ["thing"] (spF fun v => .bl (textV v)) := ⟨f2, _, PySem.W.mg_of X G a2, k2, b2, ok_is_text F2 B C⟩
  have D3 : Dn l.prog w K mg base 2 "is_value" ["thing"] (spF fun v => .bl (valB v)) := ⟨f3, _, PySem.W.mg_of X G a3, k3, b3, ok_is_value F3 B D1 D2⟩
  have D4 : Dn l.prog w K mg base 3 "is_row" ["thing"] (spRow K) := ⟨f4, _, PySem.W.mg_of X G a4, k4, b4, ok_is_row F4 B D3⟩
  have D5 : Dn l.prog w K mg base 1 "kind_of" ["value"] (spF kindV) := ⟨f5, _, PySem.W.mg_of X G a5, k5, b5, ok_kind_of F5 B⟩
  have D6 : Dn l.prog w K mg base 1 "is_name" ["thing"] (spF fun v => .bl (nameV v)) := ⟨f6, _, PySem.W.mg_of X G a6, k6, b6, ok_is_name F6 B W⟩
  have D7 : Dn l.prog w K mg base 1 "_law_begin" ["_law_script"] (spBegin K) := ⟨f7, _, PySem.W.mg_of X G a7, k7, b7, ok_begin F7⟩
  have D8 : Dn l.prog w K mg base 1 "_law_draw" ["_law_tape", "_law_many"] spDraw := ⟨f8, _, PySem.W.mg_of X G a8, k8, b8, ok_draw F8 B⟩
  have D9 : Dn l.prog w K mg base 2 "_law_pick" ["_law_tape", "_law_items"] (spPick K) := ⟨f9, _, PySem.W.mg_of X G a9, k9, b9, ok_pick F9 B D8⟩
  have D10 : Dn l.prog w K mg base 3 "_law_odd" ["_law_tape"] spOdd := ⟨f10, _, PySem.W.mg_of X G a10, k10, b10, ok_law_odd F10 B D9⟩
  have D11 : Dn l.prog w K mg base 1 "_law_keywords" [] spKeys := ⟨f11, _, PySem.W.mg_of X G a11, k11, b11, ok_keys F11⟩
  have D12 : Dn l.prog w K mg base 3 "_law_text" ["_law_tape", "_law_most"] spTxt := ⟨f12, _, PySem.W.mg_of X G a12, k12, b12, ok_law_text F12 B D8 D9⟩
  have D13 : Dn l.prog w K mg base 1 "_law_is_value_here" ["_law_thing"] (spF fun v => .bl (valB v)) := ⟨f13, _, PySem.W.mg_of X G a13, k13, b13, ok_law_is_value_here F13 B⟩
  exact ok_law F14 B ⟨D3, D4, D5, D6, D7, D8, D9, D10, D11, D12, D13⟩

theorem walk {l : PySem.W.OpenLaw} {q : Program} {loose : List Str} {XP : (Str → Option Value) → Heap → Prop} {YP : World → Heap → Prop} {d : DefRec} {K : Params → PySem.W.Frag} (hn : l.most = some 63) (hdf : d.params.defaults = [])
    (hY : ∀ (w : World) (h : Heap), YP w h → (K w.params).In h)
    (F : ∀ (w : World) (mg : Str → Option Value) (fa : Addr) (h : Heap), (K w.params).In h → h.Ns mainGlobals mg → mg d.name = some (.ref fa) →
      ∃ fd : FuncData, (∀ (s : Shared) (u : Value), BindsTo s fd ⟨[u], []⟩ [("_law_script", u)]) ∧ ∀ base : Heap, (K w.params).In base → base.Ns mainGlobals mg → FnOk l.prog w (K w.params) mg base CX0 4 fa fd ["_law_script"] (spLaw (K w.params))) :
    PySem.W.WalkO q loose XP YP l.row.toRowW d [] (fun f vs => PySem.call f vs) :=
  L2.walk_of (n := 63) (k := 4) (x := "_law_script") (CX := fun _ => CX0) (sp := fun w => spLaw (K w.params)) hn (by decide) hdf ⟨rfl, by decide, by decide⟩ hY F (fun _ _ a ns hl _ hS => ⟨a, ns, rfl, hS, hl, fun _ => rfl⟩) fun _ _ _ _ _ z => z
end Ask
open PySem PySem.W PyProof.Rows
set_option maxRecDepth 100000 in
set_option maxHeartbeats 0 in
theorem PySem.Challenge.cw_innerasks_k02_values_and_names_holds : PySem.Challenge.rw_innerasks_k02_values_and_names.Holds := by
  w_on; o_law; k_head; (case hw => w_witness2)
  k_fill
  refine Ask.walk (l := PySem.Challenge.rw_innerasks_k02_values_and_names) rfl rfl (fun w h Y => PySem.W.kIn_of Y) ?F
  case F =>
    intro w mg fa h KX G hmg
    refine' Ask.all_mk KX G hmg ?a1 ?l1 ?c1 ?k1 ?a2 ?l2 ?c2 ?k2 ?a3 ?l3 ?c3 ?k3 ?a4 ?l4 ?c4 ?k4 ?a5 ?l5 ?c5 ?k5 ?a6 ?l6 ?c6 ?k6 ?a7 ?l7 ?c7 ?k7 ?a8 ?l8 ?c8 ?k8 ?a9 ?l9 ?c9 ?k9 ?a10 ?l10 ?c10 ?k10 ?a11 ?l11 ?c11 ?k11 ?a12 ?l12 ?c12 ?k12 ?a13 ?l13 ?c13 ?k13 ?a14 ?l14 ?c14 ?k14 ?z0 ?z1 ?z2 ?z3 ?z4 ?z5 ?z6 ?z7 ?z8 ?z9 ?z10 ?n1 ?n2 ?m1 ?m2 ?m3 ?m4 ?m5
    (case a1 => k_is)
    (case l1 => k_is)
    (case c1 => k_is)
    (case k1 => k_is)
    (case a2 => k_is)
    (case l2 => k_is)
    (case c2 => k_is)
    (case k2 => k_is)
    (case a3 => k_is)
    (case l3 => k_is)
    (case c3 => k_is)
    (case k3 => k_is)
    (case a4 => k_is)
    (case l4 => k_is)
    (case c4 => k_is)
    (case k4 => k_is)
    (case a5 => k_is)
    (case l5 => k_is)
    (case c5 => k_is)
    (case k5 => k_is)
    (case a6 => k_is)
    (case l6 => k_is)
    (case c6 => k_is)
    (case k6 => k_is)
    (case a7 => k_is)
    (case l7 => k_is)
    (case c7 => k_is)
    (case k7 => k_is)
    (case a8 => k_is)
    (case l8 => k_is)
    (case c8 => k_is)
    (case k8 => k_is)
    (case a9 => k_is)
    (case l9 => k_is)
    (case c9 => k_is)
    (case k9 => k_is)
    (case a10 => k_is)
    (case l10 => k_is)
    (case c10 => k_is)
    (case k10 => k_is)
    (case a11 => k_is)
    (case l11 => k_is)
    (case c11 => k_is)
    (case k11 => k_is)
    (case a12 => k_is)
    (case l12 => k_is)
    (case c12 => k_is)
    (case k12 => k_is)
    (case a13 => k_is)
    (case l13 => k_is)
    (case c13 => k_is)
    (case k13 => k_is)
    (case a14 => k_is)
    (case l14 => k_is)
    (case c14 => k_is)
    (case k14 => k_is)
    (case z0 => k_is)
    (case z1 => k_is)
    (case z2 => k_is)
    (case z3 => k_is)
    (case z4 => k_is)
    (case z5 => k_is)
    (case z6 => k_is)
    (case z7 => k_is)
    (case z8 => k_is)
    (case z9 => k_is)
    (case z10 => k_is)
    (case n1 => k_is)
    (case n2 => k_is)
    (case m1 => k_is)
    (case m2 => k_is)
    (case m3 => k_is)
    (case m4 => (repeat first | exact .nil | refine .cons ⟨_, rfl⟩ ?_))
    (case m5 => decide)
