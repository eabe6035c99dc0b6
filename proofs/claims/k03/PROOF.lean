import PyProof.Rows.All
import Wide.All
import OpenK.AllK
import Wide.FinOn
import HandS.ForMost
import HandS.Flow
import HandS.Small
import HandS.IsInst
import HandS.RaiseMore
import HandS.Walk
import HandS.FStr
import HandS.Style
import HandS.Codes
import HandS.Star
import HandS.TupLe
import PyProof.ReprRoads
import KE.DatumIndex
import PySem.Challenge.RW_innerasks_k03_whole_truths
set_option Elab.async false
set_option maxRecDepth 100000
set_option maxHeartbeats 4000000
set_option linter.all false
set_option linter.all false
namespace Ask
open PySem L2
def top (i : Nat) : Stmt := PySem.Challenge.pw_innerasks_k03_whole_truths.main.body.getD i (.Pass ⟨0, 0, 0, 0⟩)
abbrev sSame : Stmt := top 1
abbrev sPlace : Stmt := top 2
abbrev sCompare : Stmt := top 3
abbrev sNeg : Stmt := top 4
abbrev sBoth : Stmt := top 5
abbrev sEither : Stmt := top 6
abbrev sBegin : Stmt := top 8
abbrev sDraw : Stmt := top 9
abbrev sPick : Stmt := top 10
abbrev sOrder : Stmt := top 11
abbrev sVal : Stmt := top 12
abbrev sCompd : Stmt := top 13
abbrev sFold : Stmt := top 14
abbrev sLaw : Stmt := top 15
/-! ### the tape -/
abbrev kCells : Key := Sum.inr "cells"
abbrev kPlace : Key := Sum.inr "place"
abbrev kLeft : Key := Sum.inr "left"
theorem ne_cp : ¬ (kCells = kPlace) := by decide +kernel
theorem ne_cl : ¬ (kCells = kLeft) := by decide +kernel
theorem ne_pl : ¬ (kPlace = kLeft) := by decide +kernel
theorem ne_pc : ¬ (kPlace = kCells) := by decide +kernel
theorem ne_lc : ¬ (kLeft = kCells) := by decide +kernel
theorem ne_lp : ¬ (kLeft = kPlace) := by decide +kernel
def tapeD (c : Addr) (p l : Int) : List (Key × V) := [(kCells, .ref c), (kPlace, .int p), (kLeft, .int l)]
theorem tape_cells (c : Addr) (p l : Int) : valV (tapeD c p l) kCells = some (.ref c) := by
  unfold tapeD; rw [valV_pos rfl]
theorem tape_place (c : Addr) (p l : Int) : valV (tapeD c p l) kPlace = some (.int p) := by
  unfold tapeD; rw [valV_neg ne_cp, valV_pos rfl]
theorem tape_left (c : Addr) (p l : Int) : valV (tapeD c p l) kLeft = some (.int l) := by
  unfold tapeD; rw [valV_neg ne_cl, valV_neg ne_pl, valV_pos rfl]
theorem tape_put_place (c : Addr) (p l q : Int) : putK (tapeD c p l) kPlace (.int q) = tapeD c q l := by
  unfold putK tapeD
  rw [if_pos (by simp)]
  show [if kCells = kPlace then (kCells, V.int q) else (kCells, V.ref c), if kPlace = kPlace then (kPlace, V.int q) else (kPlace, V.int p), if kLeft = kPlace then (kLeft, V.int q) else (kLeft, V.int l)] = _
  rw [if_neg ne_cp, if_pos rfl, if_neg ne_lp]
theorem tape_put_left (c : Addr) (p l q : Int) : putK (tapeD c p l) kLeft (.int q) = tapeD c p q := by
  unfold putK tapeD
  rw [if_pos (by simp)]
  show [if kCells = kLeft then (kCells, V.int q) else (kCells, V.ref c), if kPlace = kLeft then (kPlace, V.int q) else (kPlace, V.int p), if kLeft = kLeft then (kLeft, V.int q) else (kLeft, V.int l)] = _
  rw [if_neg ne_cl, if_neg ne_pl, if_pos rfl]
/-- a tape at d, p draws of cells done -/
def Tape (H : Hp) (d : Addr) (p : Int) : Prop :=
  ∃ (c : Addr) (ns : List Int) (l : Int), H d = some (.dK (tapeD c p l)) ∧ H c = some (.lst (ns.map V.int)) ∧ ns ≠ [] ∧ 0 ≤ l ∧ 0 ≤ p
/-- all that was tracked is as it was, but for d, whose cells are the same -/
structure Off (H H' : Hp) (d : Addr) : Prop where
  keep : ∀ b o, H b = some o → b ≠ d → H' b = some o
  cell : ∀ kvs : List (Key × V), H d = some (.dK kvs) → ∃ kvs' : List (Key × V), H' d = some (.dK kvs') ∧ valV kvs' kCells = valV kvs kCells
instance {H H' : Hp} {d : Addr} : CoeFun (Off H H' d) (fun _ => ∀ b o, H b = some o → b ≠ d → H' b = some o) := ⟨Off.keep⟩
theorem Off.refl (H : Hp) (d : Addr) : Off H H d := ⟨fun _ _ h _ => h, fun kvs h => ⟨kvs, h, rfl⟩⟩
theorem Off.trans {H H1 H2 : Hp} {d : Addr} (a : Off H H1 d) (b : Off H1 H2 d) : Off H H2 d := ⟨fun c o h n => b c o (a c o h n) n, fun kvs h => by
  obtain ⟨k1, h1, e1⟩ := a.cell kvs h
  obtain ⟨k2, h2, e2⟩ := b.cell k1 h1
  exact ⟨k2, h2, e2.trans e1⟩⟩
theorem Off.of_same {H H1 : Hp} {d : Addr} (a : Same H H1) : Off H H1 d := ⟨fun c u h _ => a c u h, fun kvs h => ⟨kvs, a _ _ h, rfl⟩⟩
theorem Off.new {H H1 : Hp} {d p : Addr} (a : Off H H1 d) (hp : H1 p = none) (o : HO) : Off H (L2.upd H1 p o) d := a.trans (.of_same fun b u e => by rw [upd_ne (ne_of_none e hp)]; exact e)
theorem Tape.new {H : Hp} {d p : Addr} {i : Int} (t : Tape H d i) (hp : H p = none) (o : HO) : Tape (L2.upd H p o) d i := by
  obtain ⟨c, ns, l, h1, h2, h3, h4, h5⟩ := t
  exact ⟨c, ns, l, by rw [upd_ne (ne_of_none h1 hp)]; exact h1, by rw [upd_ne (ne_of_none h2 hp)]; exact h2, h3, h4, h5⟩
theorem Tape.same {H H1 : Hp} {d : Addr} {i : Int} (t : Tape H d i) (a : Same H H1) : Tape H1 d i := by
  obtain ⟨c, ns, l, h1, h2, h3, h4, h5⟩ := t
  exact ⟨c, ns, l, a _ _ h1, a _ _ h2, h3, h4, h5⟩
theorem Off.fresh {H H1 : Hp} {d D : Addr} (a : Off H H1 d) (hD : H D = none) (n : d ≠ D) (u : HO) : Off H (L2.upd H1 D u) d :=
  ⟨fun b o e nb => by rw [upd_ne (ne_of_none e hD)]; exact a b o e nb, fun kvs e => by
    obtain ⟨k1, h1, e1⟩ := a.cell kvs e
    exact ⟨k1, by rw [upd_ne n]; exact h1, e1⟩⟩
/-- a list that was made since, changed -/
theorem Tape.fresh {H0 H : Hp} {d D : Addr} {p0 p : Int} (T : Tape H d p) (T0 : Tape H0 d p0) (o : Off H0 H d) (hD : H0 D = none) (u : HO) : Tape (L2.upd H D u) d p := by
  obtain ⟨c0, ns0, l0, u1, u2, u3, u4, u5⟩ := T0
  obtain ⟨c, ns, l, h1, h2, h3, h4, h5⟩ := T
  obtain ⟨kvs, e1, e2⟩ := o.cell _ u1
  rw [h1] at e1
  have e3 : tapeD c p l = kvs := HO.dK.inj (Option.some.inj e1)
  rw [← e3, tape_cells, tape_cells] at e2
  have e4 : c = c0 := V.ref.inj (Option.some.inj e2)
  subst e4
  exact ⟨c, ns, l, by rw [upd_ne (ne_of_none u1 hD)]; exact h1, by rw [upd_ne (ne_of_none u2 hD)]; exact h2, h3, h4, h5⟩
theorem Tape.at {H : Hp} {d : Addr} {i : Int} (t : Tape H d i) : ∃ kvs, H d = some (.dK kvs) := let ⟨_, _, _, h, _⟩ := t; ⟨_, h⟩

/-! ### a def of the text, with all that a caller wants of it -/
structure Dn (P : Program) (w : World) (K : PySem.W.Frag) (mg : Str → Option Value) (base : Heap) (k : Nat) (x : Str) (ps : List Str) (sp : Sp) : Prop where
  ex : ∃ (f : Addr) (fd : FuncData), mg x = some (.ref f) ∧ PySem.W.keepIn K (.ref f) = true ∧ Binds K fd ps [] ∧ FnOk P w K mg base CX0 k f fd ps sp
theorem pe_dn {X : Cx} {k : Nat} {x : Str} {ps : List Str} {sp : Sp} {e : Expr} {es : List Expr} {t : TA} {p pos : Pos} (D : Dn X.prog X.w X.K X.mg X.base k x ps sp) (hr : Room k X.A) (hg : Gl X x) (ha : PA X (e :: es) t) (hdb : (x == ("__debug__" : Str)) = false := by decide)
    (he : starEach (e :: es) X.env = (false, eval e X.env) :: starEach es X.env := by rfl) (hpl : (backTo pos (starEach es X.env)).any (·.1) = false := by rfl) : PE X (.Call (.Name x p) (e :: es) [] pos) (tCall sp [] E0 t) := by
  obtain ⟨f, fd, hm, kp, hb, F⟩ := D.ex
  exact pe_call F hr hg hm kp hb .nil pass0 ha hdb he hpl
theorem pe_dn0 {X : Cx} {k : Nat} {x : Str} {ps : List Str} {sp : Sp} {p pos : Pos} (D : Dn X.prog X.w X.K X.mg X.base k x ps sp) (hr : Room k X.A) (hg : Gl X x) (hdb : (x == ("__debug__" : Str)) = false := by decide) : PE X (.Call (.Name x p) [] [] pos) (tCall sp [] E0 tNil) := by
  obtain ⟨f, fd, hm, kp, hb, F⟩ := D.ex
  exact pe_call0 F hr hg hm kp hb .nil pass0 hdb
/-- the built-ins that the module leaves as they are -/
structure Blt (mg : Str → Option Value) : Prop where
  len : mg "len" = none
  int : mg "int" = none
  str : mg "str" = none
  isi : mg "isinstance" = none
  min : mg "min" = none
  max : mg "max" = none
  repr : mg "repr" = none

section
variable {P : Program} {w : World} {K : PySem.W.Frag} {mg : Str → Option Value} {base : Heap}
theorem boot_int : bootBuiltins ("int" : Str) = some (.type "int") := by decide +kernel
/-! ### _law_draw -/
def spDraw : Sp := fun vs H Q _ => ∃ (d : Addr) (m p : Int), vs = [.ref d, .int m] ∧ 0 < m ∧ m < 1073741824 ∧ Tape H d p ∧ p < 1000000000 ∧
  ∀ (n p' : Int) (H' : Hp), 0 ≤ n → n < m → Tape H' d p' → p' ≤ p + 1 → Off H H' d → Q (.int n) H'
abbrev nD : List Str := ["_law_tape", "_law_many", "_law_place", "_law_size", "_law_cell", "_law_found"]
theorem scD : FnScope nD ["_law_tape", "_law_many"] (defScope sDraw) := ⟨rfl, rfl, rfl, by decide +kernel, rfl, by decide +kernel, by decide +kernel⟩
theorem dg_left {H : Hp} {d c : Addr} {p l : Int} (h : H d = some (.dK (tapeD c p l))) : DGet H d (.str "left") (some (.int l)) := .inl ⟨_, kLeft, .inl h, rfl, (tape_left c p l).symm⟩
theorem dg_place {H : Hp} {d c : Addr} {p l : Int} (h : H d = some (.dK (tapeD c p l))) : DGet H d (.str "place") (some (.int p)) := .inl ⟨_, kPlace, .inl h, rfl, (tape_place c p l).symm⟩
theorem dg_cells {H : Hp} {d c : Addr} {p l : Int} (h : H d = some (.dK (tapeD c p l))) : DGet H d (.str "cells") (some (.ref c)) := .inl ⟨_, kCells, .inl h, rfl, (tape_cells c p l).symm⟩
theorem dp_left {H : Hp} {d c : Addr} {p l q : Int} (h : H d = some (.dK (tapeD c p l))) : DPut H d (.str "left") (.int q) (L2.upd H d (.dK (tapeD c p q))) :=
  .inl ⟨_, kLeft, h, rfl, small1000 (show 3 ≤ 1000 by decide), by rw [tape_put_left]⟩
theorem dp_place {H : Hp} {d c : Addr} {p l q : Int} (h : H d = some (.dK (tapeD c p l))) : DPut H d (.str "place") (.int q) (L2.upd H d (.dK (tapeD c q l))) :=
  .inl ⟨_, kPlace, h, rfl, small1000 (show 3 ≤ 1000 by decide), by rw [tape_put_place]⟩
theorem Off.put {H H1 : Hp} {d c : Addr} {p l : Int} (a : Off H H1 d) (h : H1 d = some (.dK (tapeD c p l))) (p' l' : Int) : Off H (L2.upd H1 d (.dK (tapeD c p' l'))) d := a.trans ⟨fun b u e n => by rw [upd_ne n]; exact e, fun kvs e => by
  rw [h] at e
  have e3 : tapeD c p l = kvs := HO.dK.inj (Option.some.inj e)
  exact ⟨_, upd_same, by rw [← e3, tape_cells, tape_cells]⟩⟩
theorem two_line : (2 : Nat) ≤ sizeLine := by decide
theorem ok_draw {f : Addr} {fd : FuncData} (F : Fun K "_law_draw" "_law_draw" sDraw f fd) (B : Blt mg) : FnOk P w K mg base CX0 1 f fd ["_law_tape", "_law_many"] spDraw := by
  refine F.ok scD (fun vs H Q E h => ?_) (fun cdv A outer s H vs Q E hr h => ?_)
  · obtain ⟨d, m, p, rfl, _⟩ := h
    rfl
  · obtain ⟨d, m, p, rfl, m0, m1, T, p1, k⟩ := h
    have hu := hu_of hr
    obtain ⟨c, ns, l, hd, hc, hne, l0, p0⟩ := T
    have hcd : c ≠ d := (ne_of hd hc (by intro z; cases z)).symm
    obtain ⟨tB, hB, qB⟩ : ∃ tB, PSs (cxOf CX0 P w K mg base nD "_law_draw" (defScope sDraw) f cdv A outer s H E).nox ((defBody sDraw).drop 1) tB ∧ ∀ (v2 v3 v4 : Option V) (p' l' : Int) (H1 : Hp),
        H1 d = some (.dK (tapeD c p' l')) → 0 ≤ l' → 0 ≤ p' → p' ≤ p + 1 → Off H H1 d → tB { nx := fun _ H' => Q .non H', rt := Q } [some (.ref d), some (.int m), v2, v3, v4, none] H1 := by
      refine ⟨_, pss_cons (ps_asg (pe_tup (pa_cons (pe_op op_mod (pe_callTy call_int1 (by rfl) B.int boot_int (pa_cons (pe_dget hu (pv 0) pe_str (fun _ _ => rfl)) pa_nil)) (pv 1)) (pa_cons (pe_op op_fdiv (pe_dget hu (pv 0) pe_str (fun _ _ => rfl)) (pv 1)) pa_nil)))
            (pg_tup rfl (pgs_cons (pg_name (i := 5) scD.nd rfl (.inl rfl)) (pgs_cons (pg_sub (pv 0) pe_str (set_dict hu)) pgs_nil))))
        (pss_one (ps_ret (pv 5))), fun v2 v3 v4 p' l' H1 h1 l1 q0 q1 of => ?_⟩
      refine ⟨_, rfl, d, _, rfl, dg_left h1, .inl ⟨_, rfl, _, rfl, _, _, rfl, rfl, m0, _, rfl, d, _, rfl, dg_left h1, _, rfl, _, _, rfl, rfl, ⟨m0, m1⟩, two_line, fun t ht => ?_⟩⟩
      have htd : d ≠ t := ne_of_none h1 ht
      refine ⟨t, _, rfl, SqT.of upd_same, rfl, _, _, rfl, _, _, rfl, _, rfl, d, _, rfl, dp_left (by rw [upd_ne htd]; exact h1), rfl, _, rfl, ?_⟩
      have o2 : Off H (L2.upd (L2.upd H1 t (.tup [.int (l' % m), .int (l' / m)])) d (.dK (tapeD c p' (l' / m)))) d := (of.new ht _).put (by rw [upd_ne htd]; exact h1) _ _
      exact k _ p' _ (Int.emod_nonneg _ (by omega)) (Int.emod_lt_of_pos _ m0) ⟨c, ns, l' / m, upd_same, o2 _ _ hc hcd, hne, Int.ediv_nonneg l1 (by omega), q0⟩ q1 o2
    refine ⟨_, pss_cons (ps_if (pt_cmpR op_lt (pe_dget hu (pv 0) pe_str (fun _ _ => rfl)) (pv 1) (nomark _))
        (pss_cons (ps_par (i := 2) (j := 3) rfl scD.nd rfl rfl (by decide) rfl rfl (pa_cons (pe_dget hu (pv 0) pe_str (fun _ _ => rfl)) (pa_cons (pe_callB call_len_seq (by rfl) B.len PySem.boot_len (pa_cons (pe_dget hu (pv 0) pe_str (fun _ _ => rfl)) pa_nil)) pa_nil)) (by rfl))
        (pss_cons (ps_asg (pe_tup (pa_cons (pe_ix ix_list (pe_dget hu (pv 0) pe_str (fun _ _ => rfl)) (pe_op op_mod (pe_callTy call_int1 (by rfl) B.int boot_int (pa_cons (pv 2) pa_nil)) (pv 3)) (fun _ _ => rfl)) (pa_cons (pe_op op_add (pv 2) pe_int) pa_nil)))
            (pg_tup rfl (pgs_cons (pg_name (i := 4) scD.nd rfl (.inl rfl)) (pgs_cons (pg_sub (pv 0) pe_str (set_dict hu)) pgs_nil))))
        (pss_cons (ps_dput hu (pv 0) pe_str (pe_op op_mod (pe_callTy call_int1 (by rfl) B.int boot_int (pa_cons (pe_op op_pow (pe_op op_add (pe_op op_add (pe_op op_mod (pe_callTy call_int1 (by rfl) B.int boot_int (pa_cons (pv 4) pa_nil)) pe_int) (pe_op op_mul pe_int (pv 2))) pe_int) pe_int) pa_nil)) (pe_op op_add (pe_op op_pow pe_int pe_int) pe_int)) rfl)
        (pss_one (ps_if (pw_and (pt_cmpR op_ge (pv 4) (pe_op op_pow pe_int pe_int) (nomark _)) (pw_and1 (pt_cmpR op_lt (pv 2) (pv 3) (nomark _)))).pt
          (pss_one (ps_dput hu (pv 0) pe_str (pe_op op_sub (pv 4) (pe_op op_pow pe_int pe_int)) rfl)) pss_nil))))) pss_nil) hB, ?_⟩
    refine ⟨_, rfl, d, _, rfl, dg_left hd, _, rfl, _, _, rfl, rfl, _, rfl, ite2 (fun _ => ?_) (fun _ => qB _ _ _ p l H hd l0 p0 (by omega) (.refl _ _))⟩
    have hlen : 0 < ns.length := List.length_pos_iff.mpr hne
    have hml : (ns.map V.int).length = ns.length := List.length_map _
    obtain ⟨z, hz⟩ : ∃ z : Int, atI (ns.map V.int) (p % (ns.map V.int).length) = some (.int z) := by
      have h1 : 0 ≤ p % (ns.map V.int).length := Int.emod_nonneg _ (by omega)
      have h2 : p % (ns.map V.int).length < (ns.map V.int).length := Int.emod_lt_of_pos _ (by omega)
      have h3 : (p % (ns.map V.int).length).toNat < ns.length := by omega
      exact ⟨ns[(p % (ns.map V.int).length).toNat], at_of (j := (p % (ns.map V.int).length).toNat) (by omega) (by rw [List.getElem?_map, List.getElem?_eq_getElem h3]; rfl)⟩
    -- place, size; cell, tape['place']
    refine ⟨_, rfl, d, _, rfl, dg_place hd, _, rfl, d, _, rfl, dg_cells hd, c, _, rfl, .inl (SqL.of hc), _, _, rfl, ?_⟩
    refine ⟨_, rfl, d, _, rfl, dg_cells hd, _, rfl, .inl ⟨_, rfl, _, rfl, _, _, rfl, rfl, (by omega), c, _, _, _, rfl, rfl, SqL.of hc, hz, _, rfl, _, _, rfl, rfl, two_line, fun t ht => ?_⟩⟩
    have htd : d ≠ t := ne_of_none hd ht
    refine ⟨t, _, rfl, SqT.of upd_same, rfl, _, _, rfl, _, _, rfl, _, rfl, d, _, rfl, dp_place (by rw [upd_ne htd]; exact hd), rfl, ?_⟩
    -- tape['left']
    have e1 := Int.emod_nonneg z (show (2147483629 : Int) ≠ 0 by decide)
    have e2 := Int.emod_lt_of_pos z (show (0 : Int) < 2147483629 by decide)
    refine ⟨_, rfl, .inl ⟨_, rfl, _, _, rfl, rfl, (by show (0 : Int) < 2147483629; decide), _, rfl, _, _, rfl, rfl, .inl ⟨by decide, by decide⟩, _, _, rfl, rfl, _, _, rfl, rfl, _, _, rfl, rfl, ⟨by decide, by decide, by omega⟩, .inl ⟨_, rfl, _, _, rfl, rfl, ⟨by decide, by decide, by decide⟩, _, _, rfl, rfl, _, _, rfl, rfl, (by show (0 : Int) < 10 ^ (50 : Int).toNat + 57; decide), _, rfl, d, _, rfl, dp_left upd_same, ?_⟩⟩⟩
    rw [upd_upd]
    have l2 : ∀ x : Int, 0 ≤ x % (10 ^ (50 : Int).toNat + 57) := fun x => Int.emod_nonneg _ (by decide)
    have of : ∀ q, Off H (L2.upd (L2.upd H t (.tup [.int z, .int (p + 1)])) d (.dK (tapeD c (p + 1) q))) d := fun q => ((Off.refl H d).new ht _).put (by rw [upd_ne htd]; exact hd) _ _
    refine ⟨_, rfl, _, _, rfl, rfl, ⟨by decide, by decide, by decide⟩, _, _, rfl, rfl, _, rfl, ite2 (fun hz18 => ?_) (fun _ => ?_)⟩
    · refine ⟨_, rfl, _, rfl, _, _, rfl, rfl, _, rfl, ite2 (fun _ => ?_) (fun _ => ?_)⟩
      · have hz18 := of_decide_eq_true hz18
        refine ⟨_, rfl, _, _, rfl, rfl, ⟨by decide, by decide, by decide⟩, _, _, rfl, rfl, _, rfl, d, _, rfl, dp_left upd_same, ?_⟩
        rw [upd_upd]
        exact qB _ _ _ (p + 1) _ _ upd_same (by omega) (by omega) (by omega) (of _)
      · exact qB _ _ _ (p + 1) _ _ upd_same (l2 _) (by omega) (by omega) (of _)
    · exact qB _ _ _ (p + 1) _ _ upd_same (l2 _) (by omega) (by omega) (of _)
end
end Ask
namespace Ask
open PySem L2
section
variable {P : Program} {w : World} {K : PySem.W.Frag} {mg : Str → Option Value} {base : Heap}
/-! ### _law_begin -/
def spBegin (K : PySem.W.Frag) : Sp := fun vs H Q _ => ∃ (a : Addr) (ns : List Int), vs = [.ref a] ∧ SqL K H a (ns.map V.int) ∧ ∀ (d : Addr) (H' : Hp), H d = none → Tape H' d 0 → Same H H' → Q (.ref d) H'
abbrev nBg : List Str := ["_law_script"]
theorem scBg : FnScope nBg ["_law_script"] (defScope sBegin) := ⟨rfl, rfl, rfl, by decide +kernel, rfl, by decide +kernel, by decide +kernel⟩
theorem merge_tape (c : Addr) (p l : Int) : mergeK [] (tapeD c p l) = tapeD c p l := by
  have e1 : putK ([] : List (Key × V)) kCells (.ref c) = [(kCells, .ref c)] := putK_new _ rfl
  have e2 : putK [(kCells, V.ref c)] kPlace (.int p) = [(kCells, .ref c), (kPlace, .int p)] := putK_new _ (by rw [valV_neg ne_cp, valV_nil])
  have e3 : putK [(kCells, V.ref c), (kPlace, V.int p)] kLeft (.int l) = tapeD c p l := putK_new _ (by rw [valV_neg ne_cl, valV_neg ne_pl, valV_nil])
  show putK (putK (putK ([] : List (Key × V)) kCells (.ref c)) kPlace (.int p)) kLeft (.int l) = _
  rw [e1, e2, e3]
theorem cut_ints (ns : List Int) (lo hi : Option Int) : ∃ ms : List Int, cutV (ns.map V.int) lo hi = ms.map V.int := by
  unfold cutV
  exact ⟨(ns.drop _).take _, by rw [List.map_take, List.map_drop]⟩
theorem ok_begin {f : Addr} {fd : FuncData} (F : Fun K "_law_begin" "_law_begin" sBegin f fd) : FnOk P w K mg base CX0 1 f fd ["_law_script"] (spBegin K) := by
  refine F.ok scBg (fun vs H Q E h => ?_) (fun cdv A outer s H vs Q E hr h => ?_)
  · obtain ⟨a, ns, rfl, _⟩ := h
    rfl
  · obtain ⟨a, ns, rfl, hs, k⟩ := h
    refine ⟨_, pss_one (ps_ret (pe_disp (pps_cons pe_str (pe_orT (pe_slice sl_list (pv 0) po_none (po_some pe_int)) (pe_one (pe_lst (pa_cons pe_int pa_nil)))) (pps_cons pe_str pe_int (pps_cons pe_str pe_int pps_nil))) rfl rfl (by intro z; cases z) (by decide))), ?_⟩
    intro d hd
    have s1 : Same H (L2.upd H d (.dK [])) := fun b o e => by rw [upd_ne (ne_of_none e hd)]; exact e
    refine ⟨_, rfl, _, rfl, a, _, rfl, s1.seq hs, fun c hc => ?_⟩
    obtain ⟨ms, em⟩ := cut_ints ns none (some 63)
    have ncd : d ≠ c := ne_of_none upd_same hc
    have s2 : ∀ o, Same H (L2.upd (L2.upd H d (.dK [])) c o) := fun o b u e => by rw [upd_ne (ne_of_none (s1 _ _ e) hc)]; exact s1 _ _ e
    have fin : ∀ (c : Addr) (ms : List Int) (H1 : Hp), ms ≠ [] → Same H H1 → H1 d = some (.dK []) → H1 c = some (.lst (ms.map V.int)) → c ≠ d → Q (.ref d) (L2.upd H1 d (.dK (mergeK [] (tapeD c 0 0)))) := fun c ms H1 hm hs1 h1 h2 hn => by
      rw [merge_tape]
      refine k d _ hd ⟨c, ms, 0, upd_same, by rw [upd_ne hn]; exact h2, hm, by omega, by omega⟩ fun b u e => ?_
      rw [upd_ne (ne_of_none e hd)]
      exact hs1 _ _ e
    rw [em]
    refine ⟨!(ms.map V.int).isEmpty, .inl ⟨_, SqL.of upd_same, rfl⟩, ?_⟩
    cases ms with
    | nil =>
      refine iteF ⟨by show 1 ≤ sizeLine; decide, fun c2 hc2 => ?_⟩
      have n2 : d ≠ c2 := ne_of_none (by rw [upd_ne ncd]; exact upd_same) hc2
      refine ⟨by rw [upd_ne n2, upd_ne ncd]; exact upd_same, tapeD c2 0 0, rfl, by show 3 ≤ 15; decide, ?_⟩
      exact fin c2 [0] _ (by intro z; cases z) (fun b u e => by rw [upd_ne (ne_of_none (s2 _ _ _ e) hc2)]; exact s2 _ _ _ e) (by rw [upd_ne n2, upd_ne ncd]; exact upd_same) upd_same n2.symm
    | cons m ms =>
      refine iteT ?_
      refine ⟨by rw [upd_ne ncd]; exact upd_same, tapeD c 0 0, rfl, by show 3 ≤ 15; decide, ?_⟩
      exact fin c (m :: ms) _ (by intro z; cases z) (s2 _) (by rw [upd_ne ncd]; exact upd_same) upd_same ncd.symm
/-! ### _law_pick -/
/-- v is a list, a tuple or a text with the items xs -/
def Seq3 (K : PySem.W.Frag) (H : Hp) (v : V) (xs : List V) : Prop :=
  (∃ a, v = .ref a ∧ SqL K H a xs) ∨ (∃ a, v = .ref a ∧ SqT K H a xs) ∨ ∃ z : Str, v = .str z ∧ z.length ≤ sizeLine ∧ xs = z.cps.toList.map fun c => V.str ⟨#[c]⟩
theorem Off.seqL {H H' : Hp} {d a : Addr} {kvs : List (Key × V)} {xs : List V} (o : Off H H' d) (hd : H d = some (.dK kvs)) (h : SqL K H a xs) : SqL K H' a xs := by
  rcases h with (h | ⟨u, h⟩) | h
  · exact .inl (.inl (o _ _ h (ne_of h hd (by intro z; cases z))))
  · exact .inl (.inr ⟨u, o _ _ h (ne_of h hd (by intro z; cases z))⟩)
  · exact .inr h
theorem Off.seqT {H H' : Hp} {d a : Addr} {kvs : List (Key × V)} {xs : List V} (o : Off H H' d) (hd : H d = some (.dK kvs)) (h : SqT K H a xs) : SqT K H' a xs := by
  rcases h with (h | ⟨u, h⟩) | h
  · exact .inl (.inl (o _ _ h (ne_of h hd (by intro z; cases z))))
  · exact .inl (.inr ⟨u, o _ _ h (ne_of h hd (by intro z; cases z))⟩)
  · exact .inr h
theorem Seq3.off {H H' : Hp} {d : Addr} {kvs : List (Key × V)} {v : V} {xs : List V} (h : Seq3 K H v xs) (o : Off H H' d) (hd : H d = some (.dK kvs)) : Seq3 K H' v xs := by
  rcases h with ⟨a, e, h⟩ | ⟨a, e, h⟩ | h
  · exact .inl ⟨a, e, o.seqL hd h⟩
  · exact .inr (.inl ⟨a, e, o.seqT hd h⟩)
  · exact .inr (.inr h)
theorem Seq3.len {H : Hp} {v : V} {xs : List V} (h : Seq3 K H v xs) : LenV K v H xs.length := by
  rcases h with ⟨a, rfl, h⟩ | ⟨a, rfl, h⟩ | ⟨z, rfl, hz, rfl⟩
  · exact .inl ⟨xs, h, rfl⟩
  · exact .inr ⟨xs, h, rfl⟩
  · exact ⟨hz, by rw [List.length_map]; rfl⟩
theorem atI_map {α β : Type} (g : α → β) (l : List α) (i : Int) : atI (l.map g) i = (atI l i).map g := by
  unfold atI
  rw [List.length_map]
  cases ixN l.length i with
  | none => rfl
  | some j => simp
theorem Seq3.ix {H : Hp} {v y : V} {xs : List V} {i : Int} {Q : VK} (h : Seq3 K H v xs) (e : atI xs i = some y) (q : Q y H) : rIx K v (.int i) H Q := by
  rcases h with ⟨a, rfl, h⟩ | ⟨a, rfl, h⟩ | ⟨z, rfl, hz, rfl⟩
  · exact .inl ⟨a, xs, i, y, rfl, rfl, h, e, q⟩
  · exact .inr (.inl ⟨a, xs, i, y, rfl, rfl, h, e, q⟩)
  · rw [atI_map] at e
    obtain ⟨c, e1, rfl⟩ := Option.map_eq_some_iff.mp e
    exact .inr (.inr ⟨z, i, c, rfl, rfl, hz, e1, q⟩)
def spPick (K : PySem.W.Frag) : Sp := fun vs H Q _ => ∃ (d : Addr) (v : V) (xs : List V) (p : Int), vs = [.ref d, v] ∧ Tape H d p ∧ p < 1000000000 ∧ Seq3 K H v xs ∧ xs ≠ [] ∧ xs.length < 1073741824 ∧
  ∀ (x : V) (p' : Int) (H' : Hp), x ∈ xs → Tape H' d p' → p' ≤ p + 1 → Off H H' d → Q x H'
abbrev nPk : List Str := ["_law_tape", "_law_items"]
theorem scPk : FnScope nPk ["_law_tape", "_law_items"] (defScope sPick) := ⟨rfl, rfl, rfl, by decide +kernel, rfl, by decide +kernel, by decide +kernel⟩
theorem ok_pick {f : Addr} {fd : FuncData} (F : Fun K "_law_pick" "_law_pick" sPick f fd) (B : Blt mg) (DD : Dn P w K mg base 1 "_law_draw" ["_law_tape", "_law_many"] spDraw) : FnOk P w K mg base CX0 2 f fd ["_law_tape", "_law_items"] (spPick K) := by
  refine F.ok scPk (fun vs H Q E h => ?_) (fun cdv A outer s H vs Q E hr h => ?_)
  · obtain ⟨d, v, xs, p, rfl, _⟩ := h
    rfl
  · obtain ⟨d, v, xs, p, rfl, T, p1, S, hne, hl, k⟩ := h
    have hlen : 0 < xs.length := List.length_pos_iff.mpr hne
    refine ⟨_, pss_one (ps_ret (pe_ix ix_seq (pv 1) (pe_dn DD hr (by rfl) (pa_cons (pv 0) (pa_cons (pe_callB call_len (by rfl) B.len PySem.boot_len (pa_cons (pv 1) pa_nil)) pa_nil))) (fun _ _ => rfl))), ?_⟩
    refine ⟨_, rfl, _, rfl, _, rfl, _, _, rfl, S.len, d, _, p, rfl, by omega, by omega, T, p1, fun n p' H' n0 n1 T' hp o => ?_⟩
    obtain ⟨kvs, hd⟩ := T.at
    have h3 : n.toNat < xs.length := by omega
    exact (S.off o hd).ix (at_of (j := n.toNat) (by omega) (List.getElem?_eq_getElem h3)) (k _ p' H' (List.getElem_mem h3) T' hp o)
end
end Ask
namespace Ask
open PySem L2 PySem.Spec PyProof.Rows
/-! ### a law whose own def prints lists: it is entered from the caller of the claim, where no guard stands -/
section
variable {P : Program} {w : World} {K : PySem.W.Frag} {mg mb : Str → Option Value} {a : Addr} {s₁ : Shared} {vs : List Value} {ns : List Int}
/-- only the script is told of -/
structure OnlyA (K : PySem.W.Frag) (a : Addr) (H : Hp) : Prop where
  at_ : ∀ b, H b ≠ none → b = a
  out : H a ≠ none → K.lookup a = none
  frz : ∀ b, H b = none ∨ ∃ o xs, H b = some (.frz o (.lst xs))
theorem env_at {H : Hp} (oa : OnlyA K a H) (KX : K.In s₁.heap) (g1 : s₁.heap.Ns mainGlobals mg) (g2 : s₁.heap.Ns builtinsNs mb) (g3 : ∀ x : Str, x ≠ "__name__" → mb x = bootBuiltins x) (g4 : s₁.heap.NoLimit) (g5 : s₁.gens = #[])
    (ha : s₁.heap.get? a = some { cls := .type "list", data := .seq vs.toArray }) (hok : HOk P w H s₁.heap) :
    K.In (hidT s₁.heap H) ∧ (hidT s₁.heap H).Ns mainGlobals mg ∧ Env0 P w K mg (hidT s₁.heap H) callerA [] s₁ H := by
  have free : ∀ {b : Addr}, b ≠ a → H b = none := fun {b} n => Classical.byContradiction fun q => n (oa.at_ b q)
  have dict : ∀ {b : Addr} {o : Obj} {es : Array DictEntry} {ep : Nat}, s₁.heap.get? b = some o → o.data = .dict es ep → H b = none := by
    intro b o es ep e d
    refine free fun q => ?_
    rw [q, ha] at e
    have e := Option.some.inj e
    subst e
    exact nomatch (show Data.seq vs.toArray _ = Data.dict es ep from d)
  have ns : ∀ {b : Addr} {m : Str → Option Value}, s₁.heap.Ns b m → (hidT s₁.heap H).Ns b m := by
    rintro b m ⟨o, es, ep, e, d, r⟩
    exact ⟨o, es, ep, hidT_get e (dict e d), d, r⟩
  have kin : K.In (hidT s₁.heap H) := by
    intro b o e
    refine hidT_get (KX b o e) (Classical.byContradiction fun q => ?_)
    have eb := oa.at_ b q
    rw [eb] at q e
    rw [oa.out q] at e
    cases e
  obtain ⟨mc, l1, l2⟩ := g4
  have M : Mod K mg (hidT s₁.heap H) := ⟨kin, ns g1, ⟨mb, ns g2, g3⟩, ⟨mc, ns l1, l2⟩⟩
  refine ⟨kin, ns g1, ⟨rfl, M, fun b o e => of_hidT e, Nat.le_of_eq (hidT_size _ _), trivial, ?_, hok, .of_eq g5⟩⟩
  intro b hb
  have : b ∈ ([] : List Addr) := hb
  cases this
/-- the law's def, entered there; its body may use that no guard stands -/
theorem enter_g {k : Nat} {f : Addr} {x qual : Str} {st : Stmt} {fd : FuncData} {N ps : List Str} {base : Heap} {H : Hp} {us : List Value} {xs : List V} {Q : VK} (F : Fun K x qual st f fd) (S : FnScope N ps (defScope st)) (hr : Room (k + 1) callerA)
    (e0 : Env0 P w K mg base callerA [] s₁ H) (hb : BindsTo s₁ fd ⟨us, []⟩ (ps.zip us)) (rv : Vals xs us) (hl : xs.length = ps.length)
    (body : ∀ cdv : Value, Room k (callerA.deeper (envOfC qual (defScope st) s₁.heap.objs.size f cdv)) → (callerA.deeper (envOfC qual (defScope st) s₁.heap.objs.size f cdv)).guards = some [] →
      ∃ t, PSs (cxOf CX0 P w K mg base N qual (defScope st) f cdv callerA [] s₁ H fun _ _ _ => False).nox (defBody st) t ∧ t { nx := fun _ H' => Q .non H', rt := Q } (start N xs) H) :
    codeAny (model P w) callerA (.call (.ref f) ⟨us, []⟩) (CR CX0 [] P w H s₁ Q fun _ _ _ => False) s₁ := by
  obtain ⟨oc, od, kV, doc, pm, an, cdv, ct, osl, rfl, lk, hcd⟩ := F.ex
  have keep : ∀ b o, base.get? b = some o → s₁.heap.get? b = some o := fun b o e => (e0.bs b o e).1
  have KX : K.In s₁.heap := e0.mod.kin.keeps keep
  have lim : s₁.heap.NoLimit := e0.mod.nolimit.keeps keep
  have kinds : ∀ y ∈ ps.zip us, (defScope st).names.lookup y.1 = some .local ∨ ((defScope st).names.lookup y.1 = some .cell ∧ ((cellsFrom (s₁.heap.objs.size + 1) (defScope st).names []).lookup y.1).isSome = true) := by
    rintro ⟨n, v⟩ hy
    cases S.par n (List.of_mem_zip hy).1 with
    | inl q => exact .inl q
    | inr q => exact .inr ⟨q, PySem.W.cellsFrom_some _ _ _ (.inl q)⟩
  refine codeAny_call_function hr.depth (KX _ _ lk) rfl S.co S.gen rfl (PySem.W.codeRec_of KX hcd) (hb _ _ _ _ (wpAny_newFunctionEnv_cells S.kind kinds fun env he s2 q => ?_))
  subst he
  obtain ⟨t, ht, hq⟩ := body cdv (hr.deeper _) rfl
  have I := inv_start (CX := CX0) (E := fun _ _ _ => False) S hr.hd e0 hl rv q
  refine ⟨lim.keeps q.toInCall.keep, codeAny_func (wpAny_mono (ht.nox.run [] s2 (start N xs) H _ I hq) (fun fl s' hs => ?_) fun _ _ z => z)⟩
  cases fl with
  | ret u => obtain ⟨v, σ', H', J, r, q⟩ := hs; exact ⟨v, H', J.os, J.bare, J.base, J.hok, r, q⟩
  | next => obtain ⟨σ', H', J, q⟩ := hs; exact ⟨.non, H', J.os, J.bare, J.base, J.hok, rfl, q⟩
  | brk => obtain ⟨_, _, _, q⟩ := hs; exact q.elim
  | cont => obtain ⟨_, _, _, q⟩ := hs; exact q.elim
end
/-- the end of such a law: B tells the body for every base -/
theorem walk_g {l : PySem.W.OpenLaw} {n k : Nat} {q : Program} {loose : List Str} {XP : (Str → Option Value) → Heap → Prop} {YP : World → Heap → Prop} {d : DefRec} {K : Params → PySem.W.Frag} {x qual : Str} {st : Stmt} {N : List Str} (hn : l.most = some n) (hn2 : n ≤ sizeLine) (hdf : d.params.defaults = []) (hr : Room (k + 1) callerA)
    (hY : ∀ (w : World) (h : Heap), YP w h → (K w.params).In h) (S : FnScope N [x] (defScope st))
    (F : ∀ (w : World) (mg : Str → Option Value) (fa : Addr) (h : Heap), (K w.params).In h → h.Ns mainGlobals mg → mg d.name = some (.ref fa) →
      ∃ fd : FuncData, Fun (K w.params) qual qual st fa fd ∧ (∀ (s : Shared) (u : Value), BindsTo s fd ⟨[u], []⟩ [(x, u)]) ∧
        ∀ (base : Heap) (s₁ : Shared) (H : Hp) (a : Addr) (ns : List Int) (cdv : Value), (K w.params).In base → base.Ns mainGlobals mg → SqL (K w.params) H a (ns.map V.int) → ns.length ≤ n →
          Room k (callerA.deeper (envOfC qual (defScope st) s₁.heap.objs.size fa cdv)) → (callerA.deeper (envOfC qual (defScope st) s₁.heap.objs.size fa cdv)).guards = some [] →
          ∃ t, PSs (cxOf CX0 l.prog w (K w.params) mg base N qual (defScope st) fa cdv callerA [] s₁ H fun _ _ _ => False).nox (defBody st) t ∧ t { nx := fun _ _ => V.non = V.bl true, rt := fun v _ => v = .bl true } (start N [.ref a]) H) :
    PySem.W.WalkO q loose XP YP l.row.toRowW d [] (fun f vs => PySem.call f vs) := by
  refine Att.attach_call hn hdf fun w s₀ s₁ mg mb fa o pm cd doc a vs ns G Y _ _ _ hmg hobj hints hlen hg => ?_
  have KX := hY w _ Y
  obtain ⟨fd, Fd, hb, body⟩ := F w mg fa _ KX G.T.g hmg
  have rv := vals_ints hints
  have lenV := hints.length
  have main : ∀ H : Hp, OnlyA (K w.params) a H → SqL (K w.params) H a (ns.map V.int) → HOk l.prog w H s₁.heap →
      codeAny (model l.prog w) callerA (.call (.ref fa) ⟨[.ref a], []⟩) (fun r s' => r = .ok (.ret (.bool true)) ∧ OldK s₁.heap s'.heap ∧ s'.os = s₁.os ∧ AllBare s'.gens) s₁ := by
    intro H oa hS hok
    obtain ⟨kin, gl, e0⟩ := env_at oa KX G.T.g G.T.b G.T.builtins G.T.nolimit hg hobj hok
    refine codeAny_mono (enter_g (xs := [.ref a]) Fd S hr e0 (hb s₁ (.ref a)) (.cons rfl .nil) rfl (Q := fun v _ => v = .bl true) fun cdv h1 h2 => body _ s₁ H a ns cdv kin gl hS hlen h1 h2) fun r s' h => ?_
    cases r with
    | error e => exact h.elim
    | ok fl =>
      cases fl with
      | ret u =>
        obtain ⟨v, H', os, bare, un, hok', r', rfl⟩ := h
        obtain rfl : u = Value.bool true := r'
        refine ⟨rfl, OldK.of_keep fun b o e => ?_, os, bare⟩
        cases z : H b with
        | none => exact un.keep b o e z (by intro q; have : b ∈ ([] : List Addr) := q; cases this) (by simp)
        | some u =>
          rcases oa.frz b with z2 | ⟨ob, xs, z2⟩
          · rw [z2] at z; cases z
          · have t1 := (hok b _ z2).1
            have t2 := (hok' b _ (un.frzs b ob _ z2)).1
            rw [e] at t1
            rw [t2, t1]
      | next => exact False.elim h
      | brk => exact False.elim h
      | cont => exact False.elim h
  have hsz : (ns.map V.int).length ≤ sizeLine := by rw [List.length_map]; exact Nat.le_trans hlen hn2
  cases hk : (K w.params).lookup a with
  | some o =>
    have e := KX a o hk
    rw [hobj] at e
    cases e
    refine main (fun _ => none) ⟨fun _ z => absurd rfl z, fun z => absurd rfl z, fun _ => .inl rfl⟩ (.inr ⟨_, vs.toArray, _, hk, rfl, rfl, rfl, ?_, by simpa using rv⟩) fun b u z => nomatch (show (none : Option HO) = some u from z)
    rw [List.size_toArray, lenV]; exact Nat.le_trans hlen hn2
  | none =>
    have hit : (fun b => if b = a then some (HO.frz { cls := .type "list", data := .seq vs.toArray } (.lst (ns.map V.int))) else none) a = some (HO.frz { cls := .type "list", data := .seq vs.toArray } (.lst (ns.map V.int))) := if_pos rfl
    refine main (fun b => if b = a then some (.frz { cls := .type "list", data := .seq vs.toArray } (.lst (ns.map V.int))) else none) ⟨fun b z => ?_, fun _ => hk, fun b => ?_⟩ (.inl (.inr ⟨_, hit⟩)) fun b u z => ?_
    · exact Classical.byContradiction fun q => z (if_neg q)
    · by_cases q : b = a
      · exact .inr ⟨_, _, if_pos q⟩
      · exact .inl (if_neg q)
    · by_cases q : b = a
      · subst q
        have z' := hit.symm.trans z
        cases z'
        exact ⟨hobj, hsz, vs, _, rv, hobj⟩
      · have z' := (if_neg q).symm.trans z
        cases z'
section
variable {X : Cx}
/-- repr of data, where no guard stands -/
theorem call_repr_data (hg : X.A.guards = some []) (hu : X.A.units + 30 < cLine) : CallR X (.builtin "repr") (fun xs H Q => ∃ v d, xs = [v] ∧ Dp X.K H v d ∧ d.showable = true ∧ d.hasDict = false ∧ d.depth ≤ 20 ∧ d.shown.length ≤ 100000 ∧ Q (.str d.shown) H) := by
  intro pins s σ H xs us Q I r h
  obtain ⟨v, d, rfl, hd, h1, h2, h3, h4, q⟩ := h
  obtain ⟨u, rfl, ru⟩ := vals1 r
  obtain ⟨as, rd⟩ := Dp.reads I d v u hd ru
  have hz : d.shown.length ≤ sizeLine := Nat.le_trans h4 (by decide)
  cases v with
  | ref a =>
    cases ru
    exact repr_of_reads' rd h1 (fun e => by rw [h2] at e; cases e) hg (by omega) (fun _ _ e => e) (fun h' t tk hk => ⟨.str d.shown, H, I.kept (t' := tk) hk, ⟨_, rfl⟩, q⟩) hz
  | non =>
    cases hd
    obtain rfl : u = Value.none := ru
    exact PySem.P.repr_of_none ⟨.str _, H, I.tok _, ⟨_, rfl⟩, by simpa only [PyData.shown] using q⟩
  | bl b =>
    cases hd
    obtain rfl : u = Value.bool b := ru
    refine PySem.P.repr_of_bool ?_
    have q2 : Q (.str (if b = true then ("True" : String) else ("False" : String))) H := by
      have := q
      simp only [PyData.shown] at this
      cases b <;> exact this
    exact ⟨.str _, H, I.tok _, ⟨_, rfl⟩, q2⟩
  | int i =>
    cases hd
    obtain ⟨t, rfl⟩ := ru
    exact PySem.P.repr_of_int (of_decide_eq_true (by simpa only [PyData.showable] using h1)) ⟨.str _, H, I.tok _, ⟨_, rfl⟩, by simpa only [PyData.shown] using q⟩
  | str x =>
    cases hd
    obtain ⟨t, rfl⟩ := ru
    have hz2 : (reprText x).length ≤ sizeLine := by simpa only [PyData.shown] using hz
    exact PySem.P.repr_of_str (hsz := hz2) ⟨.str _, H, I.tok _, ⟨_, rfl⟩, by simpa only [PyData.shown] using q⟩
  | byt _ => cases hd
  | flt _ => cases hd
  | ty _ => cases hd
end
end Ask
namespace Ask
open PySem L2 PySem.Spec PyProof.Rows
theorem line1000 {n : Nat} (h : n ≤ 1000) : n ≤ sizeLine := Nat.le_of_lt (small1000 h)
theorem boot_str : bootBuiltins ("str" : Str) = some (.type "str") := by decide +kernel
theorem boot_isi : bootBuiltins ("isinstance" : Str) = some (.builtin "isinstance") := by decide +kernel
theorem boot_repr : bootBuiltins ("repr" : Str) = some (.builtin "repr") := by decide +kernel
theorem boot_min : bootBuiltins ("min" : Str) = some (.builtin "min") := by decide +kernel
theorem boot_max : bootBuiltins ("max" : Str) = some (.builtin "max") := by decide +kernel
theorem same_new {H : Hp} {p : Addr} (hp : H p = none) (o : HO) : Same H (L2.upd H p o) := fun b u e => by rw [upd_ne (ne_of_none e hp)]; exact e
theorem ifF {c : Bool} {A B : Prop} (h : c = false) (k : B) : if c = true then A else B := by rw [h]; exact iteF k
theorem ifT {c : Bool} {A B : Prop} (h : c = true) (k : A) : if c = true then A else B := by rw [h]; exact iteT k
/-! ### a def with a star alone, called -/
structure Dr (P : Program) (w : World) (K : PySem.W.Frag) (mg : Str → Option Value) (base : Heap) (k : Nat) (x : Str) (sp : Sp) : Prop where
  ex : ∃ f : Addr, mg x = some (.ref f) ∧ PySem.W.keepIn K (.ref f) = true ∧ FnR P w K mg base CX0 k f sp
section
variable {X : Cx}
theorem pe_dr0 {k : Nat} {x : Str} {sp : Sp} {p pos : Pos} (D : Dr X.prog X.w X.K X.mg X.base k x sp) (hr : Room k X.A) (hg : Gl X x) (hdb : (x == ("__debug__" : Str)) = false := by decide) : PE X (.Call (.Name x p) [] [] pos) (fun σ H Q => sp [] H Q E0) := by
  obtain ⟨f, hm, hk, F⟩ := D.ex
  refine ⟨fun pins s σ H Q I h => ?_⟩
  refine wpAny_Call_Name_kw (ld_glob I hg hm ?_ hdb)
  exact PySem.W.callWith_K0 I.kIn hk (wpAny_call (run_fnR F hr pass0 I .nil h))
theorem pe_dr {k : Nat} {x : Str} {sp : Sp} {e : Expr} {es : List Expr} {t : TA} {p pos : Pos} (D : Dr X.prog X.w X.K X.mg X.base k x sp) (hr : Room k X.A) (hg : Gl X x) (ha : PA X (e :: es) t) (hdb : (x == ("__debug__" : Str)) = false := by decide)
    (he : starEach (e :: es) X.env = (false, eval e X.env) :: starEach es X.env := by rfl) (hpl : (backTo pos (starEach es X.env)).any (·.1) = false := by rfl) : PE X (.Call (.Name x p) (e :: es) [] pos) (fun σ H Q => t σ H fun vs H1 => sp vs H1 Q E0) := by
  obtain ⟨f, hm, hk, F⟩ := D.ex
  refine ⟨fun pins s σ H Q I h => ?_⟩
  refine wpAny_Call_Name_kw (ld_glob I hg hm ?_ hdb)
  refine PySem.W.callWith_K (h₀ := X.base) I.ok.mod.kin hk (thn (ha.run pos pins s σ H _ I h) fun us s1 ⟨vs, H1, I1, r, q⟩ => ⟨I1.kIn, ?_⟩) he hpl
  exact wpAny_call (run_fnR F hr pass0 I1 r q)
/-! ### tuples (int, int, text) compared -/
def at3 (i j : Int) (z : Str) : List V := [.int i, .int j, .str z]
def eq3 (i j : Int) (z : Str) (i' j' : Int) (z' : Str) : Nat → Bool
  | 0 => i == i'
  | 1 => j == j'
  | _ => z == z'
/-- op at each place -/
def op3 (fi : Int → Int → Bool) (fs : Str → Str → Bool) (i j : Int) (z : Str) (i' j' : Int) (z' : Str) : Nat → Bool
  | 0 => fi i i'
  | 1 => fi j j'
  | _ => fs z z'
def cmp3 (fi : Int → Int → Bool) (fs : Str → Str → Bool) (fin : Bool) (i j : Int) (z : Str) (i' j' : Int) (z' : Str) : Bool := Ob.lexAt (eq3 i j z i' j' z') (op3 fi fs i j z i' j' z') fin 0 3
def sLt (x y : Str) : Bool := decide (x.cps.toList < y.cps.toList)
def rC3 (K : PySem.W.Frag) (fi : Int → Int → Bool) (fs : Str → Str → Bool) (fin : Bool) : R2 := fun x y H Q => ∃ (a b : Addr) (i j : Int) (z : Str) (i' j' : Int) (z' : Str), x = .ref a ∧ y = .ref b ∧ SqT K H a (at3 i j z) ∧ SqT K H b (at3 i' j' z') ∧ Q (.bl (cmp3 fi fs fin i j z i' j' z')) H
theorem vals_three {x y z : V} {us : List Value} (r : Vals [x, y, z] us) : ∃ u1 u2 u3, us = [u1, u2, u3] ∧ RelV x u1 ∧ RelV y u2 ∧ RelV z u3 := by
  match us, r with
  | [_, _, _], .cons a (.cons b (.cons c .nil)) => exact ⟨_, _, _, rfl, a, b, c⟩
theorem op_c3 {op : CmpOp} {fi : Int → Int → Bool} {fs : Str → Str → Bool} {fin : Bool} (hi : ∀ (A : Around) (s : Shared) (a b : Int) (t u : Tok), Ob.RcOp op A s (.int a t) (.int b u) (fi a b)) (hs : ∀ (A : Around) (s : Shared) (a b : Str) (t u : Tok), Ob.RcOp op A s (.str a t) (.str b u) (fs a b))
    (tu : ∀ {A : Around} {s : Shared} {l b : Addr} {items items2 : Array Value} {e r : Nat → Bool}, s.heap.IsTuple l items → s.heap.IsTuple b items2 → A.units < cLine → (∀ j (h1 : j < items.size) (h2 : j < items2.size), SeqAt.EqAt A.in1 s items[j] items2[j] (e j)) →
      (∀ j (h1 : j < items.size) (h2 : j < items2.size), e j = false → Ob.RcOp op A.in1 s items[j] items2[j] (r j)) → items.size = 3 → items2.size = 3 → Ob.RcOp op A s (.ref l) (.ref b) (Ob.lexAt e r fin 0 3))
    (hc : ∀ a b : Addr, compareOp op (.ref a) (.ref b) = richCompare op (.ref a) (.ref b)) (hu : X.A.units < cLine) : OpR X (compareOp op) (rC3 X.K fi fs fin) := by
  intro pins s σ H x y v u Q I rx ry h
  obtain ⟨a, b, i, j, z, i', j', z', rfl, rfl, ha, hb, q⟩ := h
  cases rx
  cases ry
  obtain ⟨its, r1, p1, _⟩ := I.tuple ha
  obtain ⟨its2, r2, p2, _⟩ := I.tuple hb
  obtain ⟨w1, w2, w3, rfl, a1, a2, a3⟩ := vals_three r1
  obtain ⟨w4, w5, w6, rfl, b1, b2, b3⟩ := vals_three r2
  obtain ⟨t1, rfl⟩ := a1
  obtain ⟨t2, rfl⟩ := a2
  obtain ⟨t3, rfl⟩ := a3
  obtain ⟨u1, rfl⟩ := b1
  obtain ⟨u2, rfl⟩ := b2
  obtain ⟨u3, rfl⟩ := b3
  have R := tu (A := X.A) (s := s) (e := eq3 i j z i' j' z') (r := op3 fi fs i j z i' j' z') p1 p2 hu (fun n h1 h2 => by
    match n with
    | 0 => exact SeqAt.EqAt.int_int _ _ _ _
    | 1 => exact SeqAt.EqAt.int_int _ _ _ _
    | 2 => exact SeqAt.EqAt.str_str _ _ _ _
    | n + 3 => exact absurd h1 (by simp)) (fun n h1 h2 _ => by
    match n with
    | 0 => exact hi _ _ _ _ _ _
    | 1 => exact hi _ _ _ _ _ _
    | 2 => exact hs _ _ _ _ _ _
    | n + 3 => exact absurd h1 (by simp)) rfl rfl
  rw [hc]
  exact R X.prog X.w X.xe (EP X pins σ Q) ⟨.bl _, H, I, rfl, q⟩
theorem op_lt3 (hu : X.A.units < cLine) : OpR X (compareOp .Lt) (rC3 X.K (fun a b => decide (a < b)) sLt false) := op_c3 (fun _ _ a b t u => .lt_int a b t u) (fun _ _ a b t u _ _ _ _ h => PyProof.Rows.lt_str h) (fun h1 h2 h3 h4 h5 e1 e2 => by
  have := Ob.RcOp.tuples_lt h1 h2 h3 h4 h5
  rw [e1, e2] at this
  exact this) (fun _ _ => rfl) hu
theorem op_le3 (hu : X.A.units < cLine) : OpR X (compareOp .LtE) (rC3 X.K (fun a b => decide (a ≤ b)) (fun x y => !sLt y x) true) := op_c3 (fun _ _ a b t u => .le_int a b t u) (fun _ _ a b t u _ _ _ _ h => PySem.P.le_str h) (fun h1 h2 h3 h4 h5 e1 e2 => by
  have := Ob.RcOp.tuples_le h1 h2 h3 h4 h5
  rw [e1, e2] at this
  exact this) (fun _ _ => rfl) hu
theorem op_gt3 (hu : X.A.units < cLine) : OpR X (compareOp .Gt) (rC3 X.K (fun a b => decide (b < a)) (fun x y => sLt y x) false) := op_c3 (fun _ _ a b t u => .gt_int a b t u) (fun _ _ a b t u _ _ _ _ h => PySem.P.gt_str h) (fun h1 h2 h3 h4 h5 e1 e2 => by
  have := Ob.RcOp.tuples_gt h1 h2 h3 h4 h5
  rw [e1, e2] at this
  exact this) (fun _ _ => rfl) hu
theorem op_ge3 (hu : X.A.units < cLine) : OpR X (compareOp .GtE) (rC3 X.K (fun a b => decide (b ≤ a)) (fun x y => !sLt x y) true) := op_c3 (fun _ _ a b t u => .ge_int a b t u) (fun _ _ a b t u _ _ _ _ h => PySem.P.ge_str h) (fun h1 h2 h3 h4 h5 e1 e2 => by
  have := Ob.RcOp.tuples_ge h1 h2 h3 h4 h5
  rw [e1, e2] at this
  exact this) (fun _ _ => rfl) hu
end
end Ask
namespace Ask
open PySem L2
/-! ### values, their places -/
def vOk : V → Prop
  | .non => True
  | .int _ => True
  | .str z => z.length ≤ 1000 ∧ PyData.strOk z = true
  | _ => False
def p1 : V → Int
  | .non => 0
  | .str _ => 2
  | _ => 1
def p2 : V → Int
  | .int i => i
  | _ => 0
def p3 : V → Str
  | .str z => z
  | _ => ""
def pl (v : V) : List V := at3 (p1 v) (p2 v) (p3 v)
theorem vOk.ty {K : PySem.W.Frag} {H : Hp} {v : V} (h : vOk v) : ∃ (t : String) (b : Bool), TyX K H v (.type t) ∧ kitB t "str" = some b ∧ (b = true ↔ ∃ z, v = .str z) := by
  cases v with
  | non => exact ⟨"NoneType", false, .base .non, by decide +kernel, by simp⟩
  | int i => exact ⟨"int", false, .base (.int i), by decide +kernel, by simp⟩
  | str z => exact ⟨"str", true, .base (.str z), by decide +kernel, by simp⟩
  | _ => exact h.elim
def plD (v : V) : PyData := .tuple [.int (p1 v), .int (p2 v), .str (p3 v)]
theorem pl_dp {K : PySem.W.Frag} {H : Hp} {a : Addr} {v : V} (h : SqT K H a (pl v)) : Dp K H (.ref a) (plD v) := .tup h (.cons (.int _) (.cons (.int _) (.cons (.str _) .nil)))
theorem pl_shaped {v : V} (h : vOk v) : SeqAt.shaped (plD v) = true := by
  have e : PyData.strOk (p3 v) = true := by
    cases v with
    | str z => exact h.2
    | _ => show PyData.strOk ("" : Str) = true; decide +kernel
  unfold SeqAt.shaped plD
  simp only [PyData.canLay0, PyData.canLayAll0, e, Bool.and_true, Bool.true_and]
  exact decide_eq_true (by simp only [PyData.depth, PyData.depthAll]; omega)
theorem pl_eqv {x y : V} (hx : vOk x) (hy : vOk y) : PyData.eqv (plD x) (plD y) = decide (x = y) := by
  have e : PyData.eqv (plD x) (plD y) = (p1 x == p1 y && (p2 x == p2 y && p3 x == p3 y)) := by
    unfold plD
    simp only [PyData.eqv, PyData.eqvAll, Bool.and_true]
  rw [e]
  cases x with
  | non =>
    cases y with
    | non => decide +kernel
    | int j => simp [p1]
    | str z => simp [p1]
    | _ => exact hy.elim
  | int i =>
    cases y with
    | non => simp [p1]
    | int j =>
      by_cases q : i = j
      · subst q; simp [p1, p2, p3]
      · have : ¬ (V.int i = V.int j) := fun t => q (V.int.inj t)
        simp [p1, p2, p3, q]
    | str z => simp [p1]
    | _ => exact hy.elim
  | str z =>
    cases y with
    | non => simp [p1]
    | int j => simp [p1]
    | str z' =>
      by_cases q : z = z'
      · subst q; simp [p1, p2, p3]
      · simp [p1, p2, p3, q]
    | _ => exact hy.elim
  | _ => exact hx.elim
theorem v_scal {x y : V} (hx : vOk x) (hy : vOk y) : scal x y = true := by
  cases x <;> cases y <;> first | rfl | exact hx.elim | exact hy.elim
def sgAt : Nat → Str
  | 0 => "="
  | 1 => "<>"
  | 2 => "<"
  | 3 => "<="
  | 4 => ">"
  | _ => ">="
def cmpB (k : Nat) (x y : V) : Bool := match k with
  | 0 => decide (x = y)
  | 1 => !decide (x = y)
  | 2 => cmp3 (fun a b => decide (a < b)) sLt false (p1 x) (p2 x) (p3 x) (p1 y) (p2 y) (p3 y)
  | 3 => cmp3 (fun a b => decide (a ≤ b)) (fun x y => !sLt y x) true (p1 x) (p2 x) (p3 x) (p1 y) (p2 y) (p3 y)
  | 4 => cmp3 (fun a b => decide (b < a)) (fun x y => sLt y x) false (p1 x) (p2 x) (p3 x) (p1 y) (p2 y) (p3 y)
  | _ => cmp3 (fun a b => decide (b ≤ a)) (fun x y => !sLt x y) true (p1 x) (p2 x) (p3 x) (p1 y) (p2 y) (p3 y)
def cmpV (k : Nat) (x y : V) : V := if x = .non ∨ y = .non then .non else .bl (cmpB k x y)
theorem cmpV_l {k : Nat} {y : V} : cmpV k .non y = .non := if_pos (.inl rfl)
theorem cmpV_r {k : Nat} {x : V} : cmpV k x .non = .non := if_pos (.inr rfl)
theorem cmpV_b {k : Nat} {x y : V} (hx : x ≠ .non) (hy : y ≠ .non) : cmpV k x y = .bl (cmpB k x y) := if_neg (fun h => h.elim hx hy)
def truth : V → Prop
  | .non => True
  | .bl _ => True
  | _ => False
def negV : V → V
  | .bl b => .bl (!b)
  | _ => .non
def bothV (ts : List V) : V := if inV (.bl false) ts = true then .bl false else if inV .non ts = true then .non else .bl true
def eithV (ts : List V) : V := if inV (.bl true) ts = true then .bl true else if inV .non ts = true then .non else .bl false
theorem truths_flat {ts : List V} (h : ∀ t ∈ ts, truth t) : ts.all flatV = true := by
  rw [List.all_eq_true]
  intro t ht
  have := h t ht
  cases t <;> first | rfl | exact this.elim
section
variable {P : Program} {w : World} {K : PySem.W.Frag} {mg : Str → Option Value} {base : Heap}
/-! ### same -/
def spSame : Sp := fun vs H Q _ => ∃ x y : V, vs = [x, y] ∧ vOk x ∧ vOk y ∧ Q (.bl (decide (x = y))) H
def spPlace : Sp := fun vs H Q _ => ∃ v : V, vs = [v] ∧ vOk v ∧ ∀ p, H p = none → Q (.ref p) (L2.upd H p (.tup (pl v)))
def spCmp : Sp := fun vs H Q _ => ∃ (k : Nat) (x y : V), vs = [.str (sgAt k), x, y] ∧ k < 6 ∧ vOk x ∧ vOk y ∧ ∀ H', Same H H' → Q (cmpV k x y) H'
def spNeg : Sp := fun vs H Q _ => ∃ t : V, vs = [t] ∧ truth t ∧ Q (negV t) H
def spTr (g : List V → V) : Sp := fun vs H Q _ => (∀ t ∈ vs, truth t) ∧ vs.length ≤ 100 ∧ ∀ H', Same H H' → Q (g vs) H'
abbrev n_same : List Str := ["one", "other"]
theorem sc_same : FnScope n_same ["one", "other"] (defScope sSame) := ⟨rfl, rfl, rfl, by decide +kernel, rfl, by decide +kernel, by decide +kernel⟩
theorem ok_same {f : Addr} {fd : FuncData} (F : Fun K "same" "same" sSame f fd) (B : Blt mg) : FnOk P w K mg base CX0 1 f fd ["one", "other"] spSame := by
  refine F.ok sc_same (fun vs H Q E h => ?_) (fun cdv A outer s H vs Q E hr h => ?_)
  · obtain ⟨x, y, rfl, _⟩ := h
    rfl
  · obtain ⟨x, y, rfl, hx, hy, k⟩ := h
    refine ⟨_, pss_one (ps_ret (pe_cmpR op_eq (pv 0) (pv 1) (nomark _))), ?_⟩
    exact ⟨_, rfl, _, rfl, v_scal hx hy, k⟩
abbrev n_value_place : List Str := ["value"]
theorem sc_value_place : FnScope n_value_place ["value"] (defScope sPlace) := ⟨rfl, rfl, rfl, by decide +kernel, rfl, by decide +kernel, by decide +kernel⟩
theorem ok_value_place {f : Addr} {fd : FuncData} (F : Fun K "value_place" "value_place" sPlace f fd) (B : Blt mg) : FnOk P w K mg base CX0 1 f fd ["value"] spPlace := by
  refine F.ok sc_value_place (fun vs H Q E h => ?_) (fun cdv A outer s H vs Q E hr h => ?_)
  · obtain ⟨v, rfl, _⟩ := h
    rfl
  · obtain ⟨v, rfl, hv, k⟩ := h
    refine ⟨_, pss_cons (ps_if (pt_cmpR op_isN (pv 0) pe_non (nomark _)) (pss_one (ps_ret (pe_tup (pa_cons pe_int (pa_cons pe_int (pa_cons pe_str pa_nil)))))) pss_nil) (pss_cons (ps_if (pt_val (pe_callB call_isi (by rfl) B.isi boot_isi (pa_cons (pv 0) (pa_cons (pe_bltn (v := .ty "str") (by rfl) B.str boot_str rfl) pa_nil)))) (pss_one (ps_ret (pe_tup (pa_cons pe_int (pa_cons pe_int (pa_cons (pv 0) pa_nil)))))) pss_nil) (pss_one (ps_ret (pe_tup (pa_cons pe_int (pa_cons (pv 0) (pa_cons pe_str pa_nil))))))), ?_⟩
    refine ⟨_, rfl, rfl, _, rfl, ?_⟩
    cases v with
    | non => exact iteT ⟨by show 3 ≤ sizeLine; decide, fun p hp => k p hp⟩
    | int i => exact iteF ⟨_, rfl, .int i, .ty "str", .type "int", .type "str", false, rfl, .ty _, .base (.int i), kit_ty (by decide +kernel), _, rfl, iteF ⟨_, rfl, by show 3 ≤ sizeLine; decide, fun p hp => k p hp⟩⟩
    | str z => exact iteF ⟨_, rfl, .str z, .ty "str", .type "str", .type "str", true, rfl, .ty _, .base (.str z), kit_ty (by decide +kernel), _, rfl, iteT ⟨_, rfl, by show 3 ≤ sizeLine; decide, fun p hp => k p hp⟩⟩
    | _ => exact hv.elim
abbrev n_law_order : List Str := ["_law_value_here"]
theorem sc_law_order : FnScope n_law_order ["_law_value_here"] (defScope sOrder) := ⟨rfl, rfl, rfl, by decide +kernel, rfl, by decide +kernel, by decide +kernel⟩
theorem ok_law_order {f : Addr} {fd : FuncData} (F : Fun K "_law_order" "_law_order" sOrder f fd) (B : Blt mg) : FnOk P w K mg base CX0 1 f fd ["_law_value_here"] spPlace := by
  refine F.ok sc_law_order (fun vs H Q E h => ?_) (fun cdv A outer s H vs Q E hr h => ?_)
  · obtain ⟨v, rfl, _⟩ := h
    rfl
  · obtain ⟨v, rfl, hv, k⟩ := h
    refine ⟨_, pss_cons (ps_if (pt_cmpR op_isN (pv 0) pe_non (nomark _)) (pss_one (ps_ret (pe_tup (pa_cons pe_int (pa_cons pe_int (pa_cons pe_str pa_nil)))))) pss_nil) (pss_one (ps_ret (pe_ifExp (pt_val (pe_callB call_isi (by rfl) B.isi boot_isi (pa_cons (pv 0) (pa_cons (pe_bltn (v := .ty "str") (by rfl) B.str boot_str rfl) pa_nil)))) (pe_tup (pa_cons pe_int (pa_cons pe_int (pa_cons (pv 0) pa_nil)))) (pe_tup (pa_cons pe_int (pa_cons (pe_callTy call_int1 (by rfl) B.int boot_int (pa_cons (pv 0) pa_nil)) (pa_cons pe_str pa_nil))))))), ?_⟩
    refine ⟨_, rfl, rfl, _, rfl, ?_⟩
    cases v with
    | non => exact iteT ⟨by show 3 ≤ sizeLine; decide, fun p hp => k p hp⟩
    | int i => exact iteF ⟨_, rfl, .int i, .ty "str", .type "int", .type "str", false, rfl, .ty _, .base (.int i), kit_ty (by decide +kernel), _, rfl, iteF ⟨_, rfl, .inl ⟨_, rfl, by show 3 ≤ sizeLine; decide, fun p hp => k p hp⟩⟩⟩
    | str z => exact iteF ⟨_, rfl, .str z, .ty "str", .type "str", .type "str", true, rfl, .ty _, .base (.str z), kit_ty (by decide +kernel), _, rfl, iteT ⟨_, rfl, by show 3 ≤ sizeLine; decide, fun p hp => k p hp⟩⟩
    | _ => exact hv.elim
/-! ### compare -/
abbrev n_compare : List Str := ["sign", "one", "other", "left", "right"]
theorem sc_compare : FnScope n_compare ["sign", "one", "other"] (defScope sCompare) := ⟨rfl, rfl, rfl, by decide +kernel, rfl, by decide +kernel, by decide +kernel⟩
theorem ok_compare {f : Addr} {fd : FuncData} (F : Fun K "compare" "compare" sCompare f fd) (B : Blt mg) (DS : Dn P w K mg base 1 "same" ["one", "other"] spSame) (DPl : Dn P w K mg base 1 "value_place" ["value"] spPlace) : FnOk P w K mg base CX0 2 f fd ["sign", "one", "other"] spCmp := by
  refine F.ok sc_compare (fun vs H Q E h => ?_) (fun cdv A outer s H vs Q E hr h => ?_)
  · obtain ⟨k, x, y, rfl, _⟩ := h
    rfl
  · obtain ⟨n, x, y, rfl, hn, hx, hy, k⟩ := h
    have hu : A.units < cLine := by have := hr.un; have e : (A.deeper (PyProof.Rows.envOfC "compare" (defScope sCompare) s.heap.objs.size f cdv)).units = A.units + 3 := rfl; omega
    have hu2 : (A.deeper (PyProof.Rows.envOfC "compare" (defScope sCompare) s.heap.objs.size f cdv)).units < cLine := by have := hr.un; omega
    refine ⟨_, pss_cons (ps_if (pt_cmpR op_eq (pv 0) pe_str (nomark _)) (pss_one (ps_ret (pe_dn DS hr (by rfl) (pa_cons (pv 1) (pa_cons (pv 2) pa_nil))))) pss_nil) (pss_cons (ps_if (pw_or (pt_cmpR op_isN (pv 1) pe_non (nomark _)) (pw_or1 (pt_cmpR op_isN (pv 2) pe_non (nomark _)))).pt (pss_one (ps_ret pe_non)) pss_nil) (pss_cons (ps_if (pt_cmpR op_eq (pv 0) pe_str (nomark _)) (pss_one (ps_ret (pe_dn DS hr (by rfl) (pa_cons (pv 1) (pa_cons (pv 2) pa_nil))))) pss_nil) (pss_cons (ps_if (pt_cmpR op_eq (pv 0) pe_str (nomark _)) (pss_one (ps_ret (pe_not (pe_dn DS hr (by rfl) (pa_cons (pv 1) (pa_cons (pv 2) pa_nil)))))) pss_nil)
      (pss_cons (ps_set (i := 3) sc_compare.nd rfl (Or.inl rfl) (pe_dn DPl hr (by rfl) (pa_cons (pv 1) pa_nil))) (pss_cons (ps_set (i := 4) sc_compare.nd rfl (Or.inl rfl) (pe_dn DPl hr (by rfl) (pa_cons (pv 2) pa_nil)))
      (pss_cons (ps_if (pt_cmpR op_eq (pv 0) pe_str (nomark _)) (pss_one (ps_ret (pe_cmpR (op_lt3 hu2) (pv 3) (pv 4) (nomark _)))) pss_nil) (pss_cons (ps_if (pt_cmpR op_eq (pv 0) pe_str (nomark _)) (pss_one (ps_ret (pe_cmpR (op_le3 hu2) (pv 3) (pv 4) (nomark _)))) pss_nil)
      (pss_one (ps_ret (pe_ifExp (pt_cmpR op_eq (pv 0) pe_str (nomark _)) (pe_cmpR (op_gt3 hu2) (pv 3) (pv 4) (nomark _)) (pe_cmpR (op_ge3 hu2) (pv 3) (pv 4) (nomark _)))))))))))), ?_⟩
    have go : ∀ (c : Bool), decide (V.str (sgAt n) = V.str "is") = c → c = false := by
      rintro c rfl
      have : n = 0 ∨ n = 1 ∨ n = 2 ∨ n = 3 ∨ n = 4 ∨ n = 5 := by omega
      rcases this with rfl | rfl | rfl | rfl | rfl | rfl <;> decide +kernel
    refine ⟨_, rfl, rfl, _, rfl, ifF (go _ rfl) ?_⟩
    have kN : (x = .non ∨ y = .non) → Q .non H := fun e => by
      have q := k H (Same.refl H)
      rw [show cmpV n x y = .non from if_pos e] at q
      exact q
    refine ⟨_, rfl, rfl, _, rfl, ?_⟩
    cases ex : decide (x = V.non) with
    | true => exact iteT (iteT (kN (.inl (of_decide_eq_true ex))))
    | false =>
    refine iteF ⟨_, rfl, rfl, _, rfl, ?_⟩
    cases ey : decide (y = V.non) with
    | true => exact iteT (kN (.inr (of_decide_eq_true ey)))
    | false =>
    refine iteF ?_
    have eb : cmpV n x y = .bl (cmpB n x y) := cmpV_b (of_decide_eq_false ex) (of_decide_eq_false ey)
    rw [eb] at k
    have two : n = 0 ∨ n = 1 ∨ n = 2 ∨ n = 3 ∨ n = 4 ∨ n = 5 := by omega
    have sT : ∀ p p' : Addr, H p = none → (L2.upd H p (.tup (pl x))) p' = none → SqT K (L2.upd (L2.upd H p (.tup (pl x))) p' (.tup (pl y))) p (pl x) ∧ SqT K (L2.upd (L2.upd H p (.tup (pl x))) p' (.tup (pl y))) p' (pl y) ∧ Same H (L2.upd (L2.upd H p (.tup (pl x))) p' (.tup (pl y))) := fun p p' hp hp' =>
      ⟨SqT.of (by rw [upd_ne (ne_of_none upd_same hp')]; exact upd_same), SqT.of upd_same, (same_new hp _).trans (same_new hp' _)⟩
    rcases two with rfl | rfl | rfl | rfl | rfl | rfl
    · exact ⟨_, rfl, rfl, _, rfl, ifT (by decide +kernel) ⟨_, rfl, _, rfl, x, y, rfl, hx, hy, k H (Same.refl H)⟩⟩
    · exact ⟨_, rfl, rfl, _, rfl, ifF (by decide +kernel) ⟨_, rfl, rfl, _, rfl, ifT (by decide +kernel) ⟨_, rfl, _, rfl, x, y, rfl, hx, hy, _, rfl, k H (Same.refl H)⟩⟩⟩
    · exact ⟨_, rfl, rfl, _, rfl, ifF (by decide +kernel) ⟨_, rfl, rfl, _, rfl, ifF (by decide +kernel) ⟨_, rfl, x, rfl, hx, fun p hp => ⟨_, rfl, y, rfl, hy, fun p' hp' => ⟨_, rfl, rfl, _, rfl, ifT (by decide +kernel) ⟨_, rfl, _, rfl, p, p', _, _, _, _, _, _, rfl, rfl, (sT p p' hp hp').1, (sT p p' hp hp').2.1, k _ (sT p p' hp hp').2.2⟩⟩⟩⟩⟩⟩
    · exact ⟨_, rfl, rfl, _, rfl, ifF (by decide +kernel) ⟨_, rfl, rfl, _, rfl, ifF (by decide +kernel) ⟨_, rfl, x, rfl, hx, fun p hp => ⟨_, rfl, y, rfl, hy, fun p' hp' => ⟨_, rfl, rfl, _, rfl, ifF (by decide +kernel) ⟨_, rfl, rfl, _, rfl, ifT (by decide +kernel) ⟨_, rfl, _, rfl, p, p', _, _, _, _, _, _, rfl, rfl, (sT p p' hp hp').1, (sT p p' hp hp').2.1, k _ (sT p p' hp hp').2.2⟩⟩⟩⟩⟩⟩⟩
    · exact ⟨_, rfl, rfl, _, rfl, ifF (by decide +kernel) ⟨_, rfl, rfl, _, rfl, ifF (by decide +kernel) ⟨_, rfl, x, rfl, hx, fun p hp => ⟨_, rfl, y, rfl, hy, fun p' hp' => ⟨_, rfl, rfl, _, rfl, ifF (by decide +kernel) ⟨_, rfl, rfl, _, rfl, ifF (by decide +kernel) ⟨_, rfl, rfl, _, rfl, ifT (by decide +kernel) ⟨_, rfl, _, rfl, p, p', _, _, _, _, _, _, rfl, rfl, (sT p p' hp hp').1, (sT p p' hp hp').2.1, k _ (sT p p' hp hp').2.2⟩⟩⟩⟩⟩⟩⟩⟩
    · exact ⟨_, rfl, rfl, _, rfl, ifF (by decide +kernel) ⟨_, rfl, rfl, _, rfl, ifF (by decide +kernel) ⟨_, rfl, x, rfl, hx, fun p hp => ⟨_, rfl, y, rfl, hy, fun p' hp' => ⟨_, rfl, rfl, _, rfl, ifF (by decide +kernel) ⟨_, rfl, rfl, _, rfl, ifF (by decide +kernel) ⟨_, rfl, rfl, _, rfl, ifF (by decide +kernel) ⟨_, rfl, _, rfl, p, p', _, _, _, _, _, _, rfl, rfl, (sT p p' hp hp').1, (sT p p' hp hp').2.1, k _ (sT p p' hp hp').2.2⟩⟩⟩⟩⟩⟩⟩⟩
/-! ### truths -/
abbrev n_negated : List Str := ["truth"]
theorem sc_negated : FnScope n_negated ["truth"] (defScope sNeg) := ⟨rfl, rfl, rfl, by decide +kernel, rfl, by decide +kernel, by decide +kernel⟩
theorem ok_negated {f : Addr} {fd : FuncData} (F : Fun K "negated" "negated" sNeg f fd) (B : Blt mg) : FnOk P w K mg base CX0 1 f fd ["truth"] spNeg := by
  refine F.ok sc_negated (fun vs H Q E h => ?_) (fun cdv A outer s H vs Q E hr h => ?_)
  · obtain ⟨t, rfl, _⟩ := h
    rfl
  · obtain ⟨t, rfl, ht, k⟩ := h
    refine ⟨_, pss_one (ps_ret (pe_ifExp (pt_cmpR op_isN (pv 0) pe_non (nomark _)) pe_non (pe_not (pv 0)))), ?_⟩
    refine ⟨_, rfl, rfl, _, rfl, ?_⟩
    cases t with
    | non => exact iteT k
    | bl b => exact iteF ⟨_, rfl, _, rfl, k⟩
    | _ => exact ht.elim
theorem sc_both : FnScope ["truths"] (([] : List Str) ++ [("truths" : Str)]) (defScope sBoth) := ⟨rfl, rfl, rfl, by decide +kernel, rfl, by decide +kernel, by decide +kernel⟩
theorem ok_both {f : Addr} {fd : FuncData} (F : Fun K "both" "both" sBoth f fd) : FnR P w K mg base CX0 1 f (spTr bothV) := by
  obtain ⟨oc, od, kV, doc, pm, an, cdv, ct, osl, rfl, lk, hcd⟩ := F.ex
  have R : FnR P w K mg base CX0 (0 + 1) f _ := StX.fn_star (N := ["truths"]) (ps := []) (pv := "truths") (k := 0) (CX := CX0) (sp := fun vs H Q _ => ∃ (p : Addr) (ts : List V), vs = [.ref p] ∧ SqT K H p ts ∧ (∀ t ∈ ts, truth t) ∧ Q (bothV ts) H) lk hcd sc_both StX.cxUp_none
    (fun us rest h => by
      have e : us = [] := List.length_eq_zero_iff.mp h
      subst e
      cases rest with
      | nil => rfl
      | cons r rs => rfl) (fun A outer s H vs Q E hr h => ?_)
  · refine R.imp fun vs H Q E h => ?_
    obtain ⟨h1, h2, h3⟩ := h
    exact ⟨[], vs, rfl, rfl, line1000 (by omega), fun p hp => ⟨p, vs, rfl, SqT.of upd_same, h1, h3 _ (same_new hp _)⟩⟩
  · obtain ⟨p, ts, rfl, hp, ht, k⟩ := h
    have nd : ["truths"].Nodup := by decide +kernel
    refine ⟨_, PSs.nox (pss_cons (ps_if (pt_cmpR op_in_seq pe_bl (pv 0) (by with_unfolding_all rfl)) (pss_one (ps_ret pe_bl)) pss_nil) (pss_one (ps_ret (pe_ifExp (pt_cmpR op_in_seq pe_non (pv 0) (by with_unfolding_all rfl)) pe_non pe_bl)))), ?_⟩
    refine ⟨_, rfl, p, ts, rfl, .inr hp, rfl, truths_flat ht, _, rfl, ?_⟩
    show if inV (.bl false) ts = true then _ else _
    cases e1 : inV (.bl false) ts with
    | true =>
      rw [show bothV ts = .bl false from if_pos e1] at k
      exact iteT k
    | false =>
      refine iteF ⟨_, rfl, p, ts, rfl, .inr hp, rfl, truths_flat ht, _, rfl, ?_⟩
      show if inV .non ts = true then _ else _
      cases e2 : inV .non ts with
      | true =>
        rw [show bothV ts = .non from (if_neg (by rw [e1]; exact Bool.false_ne_true)).trans (if_pos e2)] at k
        exact iteT k
      | false =>
        rw [show bothV ts = .bl true from (if_neg (by rw [e1]; exact Bool.false_ne_true)).trans (if_neg (by rw [e2]; exact Bool.false_ne_true))] at k
        exact iteF k
theorem sc_either : FnScope ["truths"] (([] : List Str) ++ [("truths" : Str)]) (defScope sEither) := ⟨rfl, rfl, rfl, by decide +kernel, rfl, by decide +kernel, by decide +kernel⟩
theorem ok_either {f : Addr} {fd : FuncData} (F : Fun K "either" "either" sEither f fd) : FnR P w K mg base CX0 1 f (spTr eithV) := by
  obtain ⟨oc, od, kV, doc, pm, an, cdv, ct, osl, rfl, lk, hcd⟩ := F.ex
  have R : FnR P w K mg base CX0 (0 + 1) f _ := StX.fn_star (N := ["truths"]) (ps := []) (pv := "truths") (k := 0) (CX := CX0) (sp := fun vs H Q _ => ∃ (p : Addr) (ts : List V), vs = [.ref p] ∧ SqT K H p ts ∧ (∀ t ∈ ts, truth t) ∧ Q (eithV ts) H) lk hcd sc_either StX.cxUp_none
    (fun us rest h => by
      have e : us = [] := List.length_eq_zero_iff.mp h
      subst e
      cases rest with
      | nil => rfl
      | cons r rs => rfl) (fun A outer s H vs Q E hr h => ?_)
  · refine R.imp fun vs H Q E h => ?_
    obtain ⟨h1, h2, h3⟩ := h
    exact ⟨[], vs, rfl, rfl, line1000 (by omega), fun p hp => ⟨p, vs, rfl, SqT.of upd_same, h1, h3 _ (same_new hp _)⟩⟩
  · obtain ⟨p, ts, rfl, hp, ht, k⟩ := h
    have nd : ["truths"].Nodup := by decide +kernel
    refine ⟨_, PSs.nox (pss_cons (ps_if (pt_cmpR op_in_seq pe_bl (pv 0) (by with_unfolding_all rfl)) (pss_one (ps_ret pe_bl)) pss_nil) (pss_one (ps_ret (pe_ifExp (pt_cmpR op_in_seq pe_non (pv 0) (by with_unfolding_all rfl)) pe_non pe_bl)))), ?_⟩
    refine ⟨_, rfl, p, ts, rfl, .inr hp, rfl, truths_flat ht, _, rfl, ?_⟩
    show if inV (.bl true) ts = true then _ else _
    cases e1 : inV (.bl true) ts with
    | true =>
      rw [show eithV ts = .bl true from if_pos e1] at k
      exact iteT k
    | false =>
      refine iteF ⟨_, rfl, p, ts, rfl, .inr hp, rfl, truths_flat ht, _, rfl, ?_⟩
      show if inV .non ts = true then _ else _
      cases e2 : inV .non ts with
      | true =>
        rw [show eithV ts = .non from (if_neg (by rw [e1]; exact Bool.false_ne_true)).trans (if_pos e2)] at k
        exact iteT k
      | false =>
        rw [show eithV ts = .bl false from (if_neg (by rw [e1]; exact Bool.false_ne_true)).trans (if_neg (by rw [e2]; exact Bool.false_ne_true))] at k
        exact iteF k
end
end Ask
namespace Ask
open PySem L2
theorem boot_int1 : bootBuiltins ("int" : Str) = some (.type "int") := boot_int
theorem all_nil {p : V → Prop} : ∀ x ∈ ([] : List V), p x := fun _ h => nomatch h
theorem all_cons {p : V → Prop} {a : V} {l : List V} (h : p a) (t : ∀ x ∈ l, p x) : ∀ x ∈ a :: l, p x := fun x hx => by
  cases hx with
  | head => exact h
  | tail _ hx => exact t x hx
/-- the dict of the six signs, asked for one -/
theorem six_get {v0 v1 v2 v3 v4 v5 : V} : ∀ {n : Nat} {f : Nat → V}, n < 6 → f 0 = v0 → f 1 = v1 → f 2 = v2 → f 3 = v3 → f 4 = v4 → f 5 = v5 →
    valV (mergeK [] [(.inr "=", v0), (.inr "<>", v1), (.inr "<", v2), (.inr "<=", v3), (.inr ">", v4), (.inr ">=", v5)]) (.inr (sgAt n)) = some (f n) := by
  intro n f hn e0 e1 e2 e3 e4 e5
  have go : ∀ k : Key, valV (mergeK [] [(.inr "=", v0), (.inr "<>", v1), (.inr "<", v2), (.inr "<=", v3), (.inr ">", v4), (.inr ">=", v5)]) k = if k = .inr ">=" then some v5 else if k = .inr ">" then some v4 else if k = .inr "<=" then some v3 else if k = .inr "<" then some v2 else if k = .inr "<>" then some v1 else if k = .inr "=" then some v0 else none := fun k => by
    show valV (putK (putK (putK (putK (putK (putK [] (.inr "=") v0) (.inr "<>") v1) (.inr "<") v2) (.inr "<=") v3) (.inr ">") v4) (.inr ">=") v5) k = _
    rw [valV_put, valV_put, valV_put, valV_put, valV_put, valV_put]
    rfl
  rw [go]
  have : n = 0 ∨ n = 1 ∨ n = 2 ∨ n = 3 ∨ n = 4 ∨ n = 5 := by omega
  rcases this with rfl | rfl | rfl | rfl | rfl | rfl
  · rw [if_neg (by decide +kernel), if_neg (by decide +kernel), if_neg (by decide +kernel), if_neg (by decide +kernel), if_neg (by decide +kernel), if_pos (by decide +kernel), e0]
  · rw [if_neg (by decide +kernel), if_neg (by decide +kernel), if_neg (by decide +kernel), if_neg (by decide +kernel), if_pos (by decide +kernel), e1]
  · rw [if_neg (by decide +kernel), if_neg (by decide +kernel), if_neg (by decide +kernel), if_pos (by decide +kernel), e2]
  · rw [if_neg (by decide +kernel), if_neg (by decide +kernel), if_pos (by decide +kernel), e3]
  · rw [if_neg (by decide +kernel), if_pos (by decide +kernel), e4]
  · rw [if_pos (by decide +kernel), e5]
section
variable {P : Program} {w : World} {K : PySem.W.Frag} {mg : Str → Option Value} {base : Heap}
/-! ### _law_value -/
def spVal : Sp := fun vs H Q _ => ∃ (d : Addr) (z : Str) (p : Int), vs = [.ref d, .str z] ∧ Tape H d p ∧ p < 990000000 ∧ ∀ (x : V) (p' : Int) (H' : Hp), vOk x → Tape H' d p' → p' ≤ p + 2 → Off H H' d → Q x H'
abbrev n_law_value : List Str := ["_law_tape", "_law_kind"]
theorem sc_law_value : FnScope n_law_value ["_law_tape", "_law_kind"] (defScope sVal) := ⟨rfl, rfl, rfl, by decide +kernel, rfl, by decide +kernel, by decide +kernel⟩
theorem ok_law_value {f : Addr} {fd : FuncData} (F : Fun K "_law_value" "_law_value" sVal f fd) (B : Blt mg) (DD : Dn P w K mg base 1 "_law_draw" ["_law_tape", "_law_many"] spDraw) (DP : Dn P w K mg base 2 "_law_pick" ["_law_tape", "_law_items"] (spPick K)) : FnOk P w K mg base CX0 3 f fd ["_law_tape", "_law_kind"] spVal := by
  refine F.ok sc_law_value (fun vs H Q E h => ?_) (fun cdv A outer s H vs Q E hr h => ?_)
  · obtain ⟨d, z, p, rfl, _⟩ := h
    rfl
  · obtain ⟨d, z, p, rfl, T, hp, k⟩ := h
    refine ⟨_, pss_cons (ps_if (pt_cmpR op_eq (pe_dn DD (hr.mono (by decide)) (by rfl) (pa_cons (pv 0) (pa_cons pe_int pa_nil))) pe_int (nomark _)) (pss_one (ps_ret pe_non)) pss_nil)
      (pss_cons (ps_if (pt_cmpR op_eq (pv 1) pe_str (nomark _)) (pss_one (ps_ret (pe_dn DP hr (by rfl) (pa_cons (pv 0) (pa_cons (pe_lst (pa_cons pe_str (pa_cons pe_str (pa_cons pe_str (pa_cons pe_str (pa_cons pe_str (pa_cons pe_str (pa_cons pe_str pa_nil)))))))) pa_nil))))) pss_nil)
      (pss_one (ps_ret (pe_dn DP hr (by rfl) (pa_cons (pv 0) (pa_cons (pe_lst (pa_cons pe_int (pa_cons pe_int (pa_cons pe_int (pa_cons pe_int (pa_cons pe_int (pa_cons pe_int (pa_cons (pe_un un_neg pe_int) (pa_cons (pe_op op_pow pe_int pe_int) pa_nil))))))))) pa_nil)))))), ?_⟩
    refine ⟨_, rfl, d, 4, p, rfl, by decide, by decide, T, by omega, fun n p1 H1 n0 n1 T1 h1 o1 => ⟨rfl, _, rfl, ?_⟩⟩
    refine ite2 (fun _ => k .non p1 H1 trivial T1 (by omega) o1) (fun _ => ⟨_, rfl, rfl, _, rfl, ?_⟩)
    refine ite2 (fun _ => ?_) (fun _ => ?_)
    · refine ⟨_, rfl, by show 7 ≤ sizeLine; decide, fun l hl => ?_⟩
      refine ⟨d, .ref l, _, p1, rfl, T1.new hl _, by omega, .inl ⟨l, rfl, SqL.of upd_same⟩, ?_, ?_, fun x p2 H2 hx T2 h2 o2 => k x p2 H2 ?_ T2 (by omega) ((o1.new hl _).trans o2)⟩
      · intro z; cases z
      · show 7 < 1073741824; decide
      · have s1 : ∀ z : Str, z.length ≤ 1000 ∧ PyData.strOk z = true → vOk (.str z) := fun _ h => h
        refine all_cons (s1 _ ?_) (all_cons (s1 _ ?_) (all_cons (s1 _ ?_) (all_cons (s1 _ ?_) (all_cons (s1 _ ?_) (all_cons (s1 _ ?_) (all_cons (s1 _ ?_) all_nil)))))) x hx <;> exact ⟨by decide +kernel, by decide +kernel⟩
    · refine ⟨_, rfl, 1, rfl, 10, 20, rfl, rfl, ⟨by decide, by decide, by decide⟩, by show 8 ≤ sizeLine; decide, fun l hl => ?_⟩
      refine ⟨d, .ref l, _, p1, rfl, T1.new hl _, by omega, .inl ⟨l, rfl, SqL.of upd_same⟩, ?_, ?_, fun x p2 H2 hx T2 h2 o2 => k x p2 H2 ?_ T2 (by omega) ((o1.new hl _).trans o2)⟩
      · intro z; cases z
      · show 8 < 1073741824; decide
      · have i1 : ∀ i : Int, vOk (.int i) := fun _ => trivial
        exact all_cons (i1 _) (all_cons (i1 _) (all_cons (i1 _) (all_cons (i1 _) (all_cons (i1 _) (all_cons (i1 _) (all_cons (i1 _) (all_cons (i1 _) all_nil))))))) x hx
/-! ### _law_compared -/
abbrev n_law_compared : List Str := ["_law_sign", "_law_one", "_law_other", "_law_a", "_law_b"]
theorem sc_law_compared : FnScope n_law_compared ["_law_sign", "_law_one", "_law_other"] (defScope sCompd) := ⟨rfl, rfl, rfl, by decide +kernel, rfl, by decide +kernel, by decide +kernel⟩
theorem ok_law_compared {f : Addr} {fd : FuncData} (F : Fun K "_law_compared" "_law_compared" sCompd f fd) (B : Blt mg) (DO : Dn P w K mg base 1 "_law_order" ["_law_value_here"] spPlace) : FnOk P w K mg base CX0 2 f fd ["_law_sign", "_law_one", "_law_other"] spCmp := by
  refine F.ok sc_law_compared (fun vs H Q E h => ?_) (fun cdv A outer s H vs Q E hr h => ?_)
  · obtain ⟨k, x, y, rfl, _⟩ := h
    rfl
  · obtain ⟨n, x, y, rfl, hn, hx, hy, k⟩ := h
    have hu2 : (A.deeper (PyProof.Rows.envOfC "_law_compared" (defScope sCompd) s.heap.objs.size f cdv)).units < cLine := by have := hr.un; omega
    have hu3 : (A.deeper (PyProof.Rows.envOfC "_law_compared" (defScope sCompd) s.heap.objs.size f cdv)).units + 1 < cLine := by have := hr.un; omega
    refine ⟨_, pss_cons (ps_if (pt_cmpR op_eq (pv 0) pe_str (nomark _)) (pss_one (ps_ret (pe_cmpR (op_eqD hr.units) (pe_dn DO hr (by rfl) (pa_cons (pv 1) pa_nil)) (pe_dn DO hr (by rfl) (pa_cons (pv 2) pa_nil)) (nomark _)))) pss_nil) (pss_cons (ps_if (pw_or (pt_cmpR op_isN (pv 1) pe_non (nomark _)) (pw_or1 (pt_cmpR op_isN (pv 2) pe_non (nomark _)))).pt (pss_one (ps_ret pe_non)) pss_nil)
      (pss_cons (ps_par (i := 3) (j := 4) (by rfl) sc_law_compared.nd rfl rfl (by decide) rfl rfl (pa_cons (pe_dn DO hr (by rfl) (pa_cons (pv 1) pa_nil)) (pa_cons (pe_dn DO hr (by rfl) (pa_cons (pv 2) pa_nil)) pa_nil)) (by rfl))
      (pss_one (ps_ret (pe_dget hu3 (pe_disp (pps_cons pe_str (pe_cmpR (op_eqD hr.units) (pv 3) (pv 4) (nomark _)) (pps_cons pe_str (pe_cmpR (op_neD hr.units) (pv 3) (pv 4) (nomark _)) (pps_cons pe_str (pe_cmpR (op_lt3 hu2) (pv 3) (pv 4) (nomark _)) (pps_cons pe_str (pe_cmpR (op_le3 hu2) (pv 3) (pv 4) (nomark _)) (pps_cons pe_str (pe_cmpR (op_gt3 hu2) (pv 3) (pv 4) (nomark _)) (pps_cons pe_str (pe_cmpR (op_ge3 hu2) (pv 3) (pv 4) (nomark _)) pps_nil)))))) rfl rfl (by intro z; cases z) (by decide)) (pv 0) (fun _ _ => rfl)))))), ?_⟩
    have go : ∀ (c : Bool), decide (V.str (sgAt n) = V.str "is") = c → c = false := by
      rintro c rfl
      have : n = 0 ∨ n = 1 ∨ n = 2 ∨ n = 3 ∨ n = 4 ∨ n = 5 := by omega
      rcases this with rfl | rfl | rfl | rfl | rfl | rfl <;> decide +kernel
    refine ⟨_, rfl, rfl, _, rfl, ifF (go _ rfl) ?_⟩
    have kN : (x = .non ∨ y = .non) → Q .non H := fun e => by
      have q := k H (Same.refl H)
      rw [show cmpV n x y = .non from if_pos e] at q
      exact q
    refine ⟨_, rfl, rfl, _, rfl, ?_⟩
    cases ex : decide (x = V.non) with
    | true => exact iteT (iteT (kN (.inl (of_decide_eq_true ex))))
    | false =>
    refine iteF ⟨_, rfl, rfl, _, rfl, ?_⟩
    cases ey : decide (y = V.non) with
    | true => exact iteT (kN (.inr (of_decide_eq_true ey)))
    | false =>
    refine iteF ?_
    have eb : cmpV n x y = .bl (cmpB n x y) := cmpV_b (of_decide_eq_false ex) (of_decide_eq_false ey)
    rw [eb] at k
    refine ⟨_, rfl, x, rfl, hx, fun p hp => ⟨_, rfl, y, rfl, hy, fun p' hp' => ⟨_, _, rfl, ?_⟩⟩⟩
    intro q hq
    have n1 : p ≠ p' := ne_of_none upd_same hp'
    have n2 : p' ≠ q := ne_of_none upd_same hq
    have n3 : p ≠ q := ne_of_none (show L2.upd (L2.upd H p (.tup (pl x))) p' (.tup (pl y)) p = some (.tup (pl x)) by rw [upd_ne n1]; exact upd_same) hq
    have sx : SqT K (L2.upd (L2.upd (L2.upd H p (.tup (pl x))) p' (.tup (pl y))) q (.dK [])) p (pl x) := SqT.of (by rw [upd_ne n3, upd_ne n1]; exact upd_same)
    have sy : SqT K (L2.upd (L2.upd (L2.upd H p (.tup (pl x))) p' (.tup (pl y))) q (.dK [])) p' (pl y) := SqT.of (by rw [upd_ne n2]; exact upd_same)
    refine ⟨_, rfl, _, rfl, _, _, pl_dp sx, pl_dp sy, pl_shaped hx, pl_shaped hy, ?_⟩
    refine ⟨_, rfl, _, rfl, _, _, pl_dp sx, pl_dp sy, pl_shaped hx, pl_shaped hy, ?_⟩
    refine ⟨_, rfl, _, rfl, p, p', _, _, _, _, _, _, rfl, rfl, sx, sy, ?_⟩
    refine ⟨_, rfl, _, rfl, p, p', _, _, _, _, _, _, rfl, rfl, sx, sy, ?_⟩
    refine ⟨_, rfl, _, rfl, p, p', _, _, _, _, _, _, rfl, rfl, sx, sy, ?_⟩
    refine ⟨_, rfl, _, rfl, p, p', _, _, _, _, _, _, rfl, rfl, sx, sy, ?_⟩
    refine ⟨upd_same, [(.inr "=", _), (.inr "<>", _), (.inr "<", _), (.inr "<=", _), (.inr ">", _), (.inr ">=", _)], rfl, by show 6 ≤ 15; decide, _, rfl, q, .bl (cmpB n x y), rfl, .inl ⟨_, .inr (sgAt n), .inl upd_same, rfl, (six_get (f := fun n => .bl (cmpB n x y)) hn ?_ ?_ rfl rfl rfl rfl).symm⟩, ?_⟩
    · show V.bl (decide (x = y)) = _
      rw [pl_eqv hx hy]
    · show V.bl (!decide (x = y)) = _
      rw [pl_eqv hx hy]
    · have s2 : Same H (L2.upd (L2.upd H p (.tup (pl x))) p' (.tup (pl y))) := (same_new hp _).trans (same_new hp' _)
      exact k _ (fun b u e => by rw [upd_ne (ne_of_none (s2 b u e) hq), upd_ne (ne_of_none (s2 b u e) hq)]; exact s2 b u e)
/-! ### _law_fold -/
end
end Ask
namespace Ask
open PySem L2
theorem Same.seqL {K : PySem.W.Frag} {H H' : Hp} {a : Addr} {xs : List V} (o : Same H H') (h : SqL K H a xs) : SqL K H' a xs := by
  rcases h with (h | ⟨u, h⟩) | h
  · exact .inl (.inl (o _ _ h))
  · exact .inl (.inr ⟨u, o _ _ h⟩)
  · exact .inr h
theorem same_fresh {H0 H H1 : Hp} {D : Addr} (a : Same H0 H) (hD : H0 D = none) (s : Same H H1) (u : HO) : Same H0 (L2.upd H1 D u) := fun b v e => by
  rw [upd_ne (ne_of_none e hD)]
  exact s b v (a b v e)
def ht : V → Int
  | .non => 1
  | .bl true => 2
  | _ => 0
theorem eqV_t {x y : V} (hx : truth x) (hy : truth y) : eqV x y = true ↔ x = y := by
  cases x with
  | non =>
    cases y with
    | non => exact ⟨fun _ => rfl, fun _ => rfl⟩
    | bl b => exact ⟨fun h => (nomatch h), fun h => (nomatch h)⟩
    | _ => exact hy.elim
  | bl a =>
    cases y with
    | non => exact ⟨fun h => (nomatch h), fun h => (nomatch h)⟩
    | bl b => cases a <;> cases b <;> simp [eqV]
    | _ => exact hy.elim
  | _ => exact hx.elim
theorem inV_t {x : V} {ts : List V} (hx : truth x) (h : ∀ t ∈ ts, truth t) : inV x ts = true ↔ x ∈ ts := by
  unfold inV
  rw [List.any_eq_true]
  constructor
  · rintro ⟨y, hy, e⟩
    rw [← (eqV_t (h y hy) hx).mp e]
    exact hy
  · intro hy
    exact ⟨x, hy, (eqV_t hx hx).mpr rfl⟩
theorem ht_at {ts : List V} {m : Int} (h : ∀ t ∈ ts, truth t) (hm : m ∈ ts.map ht) : (m = 0 ∧ V.bl false ∈ ts) ∨ (m = 1 ∧ V.non ∈ ts) ∨ (m = 2 ∧ V.bl true ∈ ts) := by
  obtain ⟨t, q, rfl⟩ := List.mem_map.mp hm
  have := h t q
  cases t with
  | non => exact .inr (.inl ⟨rfl, q⟩)
  | bl b =>
    cases b with
    | true => exact .inr (.inr ⟨rfl, q⟩)
    | false => exact .inl ⟨rfl, q⟩
  | _ => exact this.elim
def three : List V := [.bl false, .non, .bl true]
theorem min_both {ts : List V} {m : Int} (h : ∀ t ∈ ts, truth t) (hm : m ∈ ts.map ht ++ [2]) (hle : ∀ y, y ∈ ts.map ht ++ [2] → m ≤ y) : atI three m = some (bothV ts) := by
  unfold bothV
  have l2 : m ≤ 2 := hle 2 (List.mem_append_right _ (.head _))
  have at_ : (m = 0 ∧ V.bl false ∈ ts) ∨ (m = 1 ∧ V.non ∈ ts) ∨ m = 2 := by
    rcases List.mem_append.mp hm with q | q
    · rcases ht_at h q with q | q | q
      · exact .inl q
      · exact .inr (.inl q)
      · exact .inr (.inr q.1)
    · exact .inr (.inr (by simpa using q))
  by_cases f : V.bl false ∈ ts
  · rw [if_pos ((inV_t (x := .bl false) True.intro h).mpr f)]
    have : m ≤ 0 := hle 0 (List.mem_append_left _ (List.mem_map.mpr ⟨_, f, rfl⟩))
    have e : m = 0 := by omega
    subst e
    rfl
  · rw [if_neg (fun q => f ((inV_t (x := .bl false) True.intro h).mp q))]
    by_cases g : V.non ∈ ts
    · rw [if_pos ((inV_t (x := .non) True.intro h).mpr g)]
      have : m ≤ 1 := hle 1 (List.mem_append_left _ (List.mem_map.mpr ⟨_, g, rfl⟩))
      rcases at_ with q | q | q
      · exact absurd q.2 f
      · rw [q.1]; rfl
      · omega
    · rw [if_neg (fun q => g ((inV_t (x := .non) True.intro h).mp q))]
      rcases at_ with q | q | q
      · exact absurd q.2 f
      · exact absurd q.2 g
      · rw [q]; rfl
theorem max_either {ts : List V} {m : Int} (h : ∀ t ∈ ts, truth t) (hm : m ∈ ts.map ht ++ [0]) (hle : ∀ y, y ∈ ts.map ht ++ [0] → y ≤ m) : atI three m = some (eithV ts) := by
  unfold eithV
  have l2 : 0 ≤ m := hle 0 (List.mem_append_right _ (.head _))
  have at_ : (m = 2 ∧ V.bl true ∈ ts) ∨ (m = 1 ∧ V.non ∈ ts) ∨ m = 0 := by
    rcases List.mem_append.mp hm with q | q
    · rcases ht_at h q with q | q | q
      · exact .inr (.inr q.1)
      · exact .inr (.inl q)
      · exact .inl q
    · exact .inr (.inr (by simpa using q))
  by_cases f : V.bl true ∈ ts
  · rw [if_pos ((inV_t (x := .bl true) True.intro h).mpr f)]
    have : 2 ≤ m := hle 2 (List.mem_append_left _ (List.mem_map.mpr ⟨_, f, rfl⟩))
    have e : m = 2 := by omega
    subst e
    rfl
  · rw [if_neg (fun q => f ((inV_t (x := .bl true) True.intro h).mp q))]
    by_cases g : V.non ∈ ts
    · rw [if_pos ((inV_t (x := .non) True.intro h).mpr g)]
      have : 1 ≤ m := hle 1 (List.mem_append_left _ (List.mem_map.mpr ⟨_, g, rfl⟩))
      rcases at_ with q | q | q
      · exact absurd q.2 f
      · rw [q.1]; rfl
      · omega
    · rw [if_neg (fun q => g ((inV_t (x := .non) True.intro h).mp q))]
      rcases at_ with q | q | q
      · exact absurd q.2 f
      · exact absurd q.2 g
      · rw [q]; rfl
section
variable {P : Program} {w : World} {K : PySem.W.Frag} {mg : Str → Option Value} {base : Heap}
def foldV (a : Bool) (ts : List V) : V := if a = true then bothV ts else eithV ts
def spFold (K : PySem.W.Frag) : Sp := fun vs H Q _ => ∃ (p : Addr) (ts : List V) (a : Bool), vs = [.ref p, .bl a] ∧ SqL K H p ts ∧ (∀ t ∈ ts, truth t) ∧ ts.length ≤ 100 ∧ ∀ H', Same H H' → Q (foldV a ts) H'
abbrev n_law_fold : List Str := ["_law_truths", "_law_is_all", "_law_heights", "_law_truth"]
theorem sc_law_fold : FnScope n_law_fold ["_law_truths", "_law_is_all"] (defScope sFold) := ⟨rfl, rfl, rfl, by decide +kernel, rfl, by decide +kernel, by decide +kernel⟩
theorem ok_law_fold {f : Addr} {fd : FuncData} (F : Fun K "_law_fold" "_law_fold" sFold f fd) (B : Blt mg) : FnOk P w K mg base CX0 1 f fd ["_law_truths", "_law_is_all"] (spFold K) := by
  refine F.ok sc_law_fold (fun vs H Q E h => ?_) (fun cdv A outer s H vs Q E hr h => ?_)
  · obtain ⟨p, ts, a, rfl, _⟩ := h
    rfl
  · obtain ⟨p, ts, a, rfl, sq, ht_, hn, k⟩ := h
    refine ⟨_, pss_cons (ps_setLc (i := 2) (own := [("_law_truth", 3)]) (g := gName 3) (tt := tYes) (by rfl) sc_law_fold.nd rfl rfl (sw_true rfl rfl rfl (by decide +kernel)) (pi_list (pv 0)) (blkOk_by (N := n_law_fold) (sc := defScope sFold) (by decide +kernel))
        (fun _ _ _ _ _ => pg_name (i := 3) sc_law_fold.nd rfl (Or.inl rfl)) (fun _ _ _ _ _ => pts_nil) (fun _ _ _ _ _ => (pe_ifExp (pt_cmpR op_isN (pv 3) pe_non (nomark _)) pe_int (pe_op op_mul pe_int (pe_callTy call_int1 (by rfl) B.int boot_int (pa_cons (pv 3) pa_nil))))))
      (pss_one (ps_ret (pe_ix ix_list (pe_lst (pa_cons pe_bl (pa_cons pe_non (pa_cons pe_bl pa_nil)))) (pe_ifExp (pt_val (pv 1)) (pe_callB (cr_min rfl) (by rfl) B.min boot_min (pa_cons (pe_op op_cat (pv 2) (pe_lst (pa_cons pe_int pa_nil))) pa_nil)) (pe_callB (cr_max rfl) (by rfl) B.max boot_max (pa_cons (pe_op op_cat (pv 2) (pe_lst (pa_cons pe_int pa_nil))) pa_nil))) (fun _ _ => rfl)))), ?_⟩
    refine ⟨_, rfl, p, rfl, ⟨_, sq⟩, fun D hD => ?_⟩
    refine lc_list (xs := ts) (fun i H2 => Same H H2 ∧ H2 D = some (.lst (((ts.take i).map ht).map V.int))) ⟨same_new hD _, upd_same⟩ (fun i H2 _ q => Same.seqL q.1 sq) ?_ ?_
    · rintro i x H2 hx ⟨s2, hD2⟩
      refine ⟨rfl, ?_⟩
      unfold tYes
      refine iteT ?_
      have tx : truth x := ht_ x (List.mem_of_getElem? hx)
      have fin : ∀ H3 (z : Int), H3 = H2 → z = ht x → ∃ acc, H3 D = some (.lst acc) ∧ acc.length < sizeLine ∧ Same H (L2.upd H3 D (.lst (acc ++ [V.int z]))) ∧ (L2.upd H3 D (.lst (acc ++ [V.int z]))) D = some (.lst (((ts.take (i + 1)).map ht).map V.int)) := by
        rintro _ _ rfl rfl
        refine ⟨_, hD2, ?_, same_fresh (Same.refl H) hD s2 _, ?_⟩
        · rw [List.length_map, List.length_map, List.length_take]
          exact small1000 (by omega)
        · rw [upd_same, List.take_add_one, hx, List.map_append, List.map_append]
          rfl
      refine ⟨_, rfl, rfl, _, rfl, ?_⟩
      cases x with
      | non => exact iteT (fin _ _ rfl rfl)
      | bl b => cases b <;> exact iteF ⟨_, rfl, .inr ⟨_, rfl, _, _, rfl, rfl, .inl ⟨by decide, by decide⟩, fin _ _ rfl rfl⟩⟩
      | _ => exact tx.elim
    · rintro H2 ⟨s2, hD2⟩
      rw [List.take_length] at hD2
      refine ⟨by show 3 ≤ sizeLine; decide, fun l hl => ?_⟩
      have n1 : D ≠ l := ne_of_none hD2 hl
      refine ⟨_, rfl, _, rfl, ?_⟩
      cases a with
      | true =>
      refine iteT ?_
      refine ⟨_, rfl, by show 1 ≤ sizeLine; decide, fun q hq => ?_⟩
      have n2 : D ≠ q := ne_of_none (show L2.upd H2 l (.lst three) D = _ by rw [upd_ne n1]; exact hD2) hq
      refine ⟨D, q, _, [.int 2], rfl, rfl, by rw [upd_ne n2, upd_ne n1]; exact hD2, upd_same, by rw [List.length_map, List.length_map]; exact line1000 (by show ts.length + 1 ≤ 1000; omega), fun r hr2 => ?_⟩
      refine ⟨r, ts.map ht ++ [2], rfl, SqL.of (by rw [upd_same]; exact congrArg (fun z => some (HO.lst z)) (by rw [List.map_append]; rfl)), by rw [List.length_append]; exact Nat.succ_pos _, fun m hm hle => ?_⟩
      have n3 : l ≠ q := ne_of_none upd_same hq
      have n4 : l ≠ r := ne_of_none (show _ = some (HO.lst three) by rw [upd_ne n3]; exact upd_same) hr2
      refine ⟨l, three, m, _, rfl, rfl, SqL.of (by rw [upd_ne n4, upd_ne n3]; exact upd_same), min_both ht_ hm hle, ?_⟩
      exact k _ (s2.trans ((same_new hl _).trans ((same_new hq _).trans (same_new hr2 _))))
      | false =>
      refine iteF ?_
      refine ⟨_, rfl, by show 1 ≤ sizeLine; decide, fun q hq => ?_⟩
      have n2 : D ≠ q := ne_of_none (show L2.upd H2 l (.lst three) D = _ by rw [upd_ne n1]; exact hD2) hq
      refine ⟨D, q, _, [.int 0], rfl, rfl, by rw [upd_ne n2, upd_ne n1]; exact hD2, upd_same, by rw [List.length_map, List.length_map]; exact line1000 (by show ts.length + 1 ≤ 1000; omega), fun r hr2 => ?_⟩
      refine ⟨r, ts.map ht ++ [0], rfl, SqL.of (by rw [upd_same]; exact congrArg (fun z => some (HO.lst z)) (by rw [List.map_append]; rfl)), by rw [List.length_append]; exact Nat.succ_pos _, fun m hm hle => ?_⟩
      have n3 : l ≠ q := ne_of_none upd_same hq
      have n4 : l ≠ r := ne_of_none (show _ = some (HO.lst three) by rw [upd_ne n3]; exact upd_same) hr2
      refine ⟨l, three, m, _, rfl, rfl, SqL.of (by rw [upd_ne n4, upd_ne n3]; exact upd_same), max_either ht_ hm hle, ?_⟩
      exact k _ (s2.trans ((same_new hl _).trans ((same_new hq _).trans (same_new hr2 _))))
end
end Ask
namespace Ask
open PySem L2
def RepOk (d : PyData) : Prop := d.showable = true ∧ d.hasDict = false ∧ d.depth ≤ 20 ∧ d.shown.length ≤ 100000
instance (d : PyData) : Decidable (RepOk d) := by unfold RepOk; infer_instance
def tD : V → PyData
  | .bl b => .bool b
  | _ => .none
theorem dpT {K : PySem.W.Frag} {H : Hp} {v : V} (h : truth v) : Dp K H v (tD v) := by
  cases v with
  | non => exact .non
  | bl b => exact .bl b
  | _ => exact h.elim
theorem dpT' {K : PySem.W.Frag} {H : Hp} {v u : V} (h : truth u) (e : v = u) : Dp K H v (tD u) := by rw [e]; exact dpT h
theorem ok1 {v : V} (h : truth v) : RepOk (tD v) := by
  cases v with
  | non => decide +kernel
  | bl b => cases b <;> decide +kernel
  | _ => exact h.elim
theorem okB (b : Bool) : RepOk (.bool b) := by cases b <;> decide +kernel
theorem ok2 {x y : V} (hx : truth x) (hy : truth y) : RepOk (.list [tD x, tD y]) := by
  cases x with
  | non =>
    cases y with
    | non => decide +kernel
    | bl b => cases b <;> decide +kernel
    | _ => exact hy.elim
  | bl a =>
    cases y with
    | non => cases a <;> decide +kernel
    | bl b => cases a <;> cases b <;> decide +kernel
    | _ => exact hy.elim
  | _ => exact hx.elim
theorem tr_both (ts : List V) : truth (bothV ts) := by
  unfold bothV
  split
  · trivial
  · split <;> trivial
theorem tr_eith (ts : List V) : truth (eithV ts) := by
  unfold eithV
  split
  · trivial
  · split <;> trivial
theorem tr_cmp (k : Nat) (x y : V) : truth (cmpV k x y) := by
  unfold cmpV
  split <;> trivial
structure ThreeAt (i : Nat) (x : V) : Prop where
  tr : truth x
  flat : flatV x = true
  self : eqV x x = true
  opp : ([.bl true, .non, .bl false] : List V)[i]? = some (negV x)
  ahead : ∀ (m : Nat) (z : V), m < i → three[m]? = some z → eqV z x = false
  one : bothV [x] = x ∧ eithV [x] = x
  rep : RepOk (.list [tD (negV x), tD x, tD x])
theorem three_at {i : Nat} {x : V} (h : three[i]? = some x) : ThreeAt i x := by
  match i, h with
  | 0, h =>
    cases h
    exact ⟨trivial, rfl, rfl, rfl, fun m z hm => absurd hm (by omega), ⟨rfl, rfl⟩, by decide +kernel⟩
  | 1, h =>
    cases h
    refine ⟨trivial, rfl, rfl, rfl, fun m z hm hz => ?_, ⟨rfl, rfl⟩, by decide +kernel⟩
    obtain rfl : m = 0 := by omega
    cases hz
    rfl
  | 2, h =>
    cases h
    refine ⟨trivial, rfl, rfl, rfl, fun m z hm hz => ?_, ⟨rfl, rfl⟩, by decide +kernel⟩
    have : m = 0 ∨ m = 1 := by omega
    rcases this with rfl | rfl
    · cases hz; rfl
    · cases hz; rfl
  | n + 3, h => cases h
def sgL : List V := [.str "=", .str "<>", .str "<", .str "<=", .str ">", .str ">="]
theorem sgL_at {k : Nat} {z : V} (h : sgL[k]? = some z) : k < 6 ∧ z = .str (sgAt k) := by
  match k, h with
  | 0, h => cases h; exact ⟨by decide, rfl⟩
  | 1, h => cases h; exact ⟨by decide, rfl⟩
  | 2, h => cases h; exact ⟨by decide, rfl⟩
  | 3, h => cases h; exact ⟨by decide, rfl⟩
  | 4, h => cases h; exact ⟨by decide, rfl⟩
  | 5, h => cases h; exact ⟨by decide, rfl⟩
  | n + 6, h => cases h
theorem iteNE {x y : Str} {A B : Prop} (h : x = y) (k : B) : if (!decide (V.str x = V.str y)) = true then A else B := by
  subst h
  rw [decide_eq_true rfl]
  exact iteF k
def vsL (x y : V) : List V := [.non, .str "", .str "a", .str "b", .str "A", .str "ab", .int (-1), .int 0, .int 1, .int ((10 : Int) ^ (20 : Int).toNat), .str "1", x, y]
theorem vsL_ok {x y : V} (hx : vOk x) (hy : vOk y) : ∀ v ∈ vsL x y, vOk v := by
  have s1 : ∀ z : Str, z.length ≤ 1000 ∧ PyData.strOk z = true → vOk (.str z) := fun _ h => h
  have i1 : ∀ i : Int, vOk (.int i) := fun _ => trivial
  exact all_cons trivial (all_cons (s1 _ ⟨by decide +kernel, by decide +kernel⟩) (all_cons (s1 _ ⟨by decide +kernel, by decide +kernel⟩) (all_cons (s1 _ ⟨by decide +kernel, by decide +kernel⟩) (all_cons (s1 _ ⟨by decide +kernel, by decide +kernel⟩) (all_cons (s1 _ ⟨by decide +kernel, by decide +kernel⟩) (all_cons (i1 _) (all_cons (i1 _) (all_cons (i1 _) (all_cons (i1 _) (all_cons (s1 _ ⟨by decide +kernel, by decide +kernel⟩) (all_cons hx (all_cons hy all_nil))))))))))))
theorem mem3 {p : V → Prop} {a b c : V} (h1 : p a) (h2 : p b) (h3 : p c) : ∀ t ∈ [a, b, c], p t := all_cons h1 (all_cons h2 (all_cons h3 all_nil))
theorem mem2 {p : V → Prop} {a b : V} (h1 : p a) (h2 : p b) : ∀ t ∈ [a, b], p t := all_cons h1 (all_cons h2 all_nil)
theorem mem1 {p : V → Prop} {a : V} (h1 : p a) : ∀ t ∈ [a], p t := all_cons h1 all_nil
structure Defs (P : Program) (w : World) (K : PySem.W.Frag) (mg : Str → Option Value) (base : Heap) : Prop where
  same : Dn P w K mg base 1 "same" ["one", "other"] spSame
  cmp : Dn P w K mg base 2 "compare" ["sign", "one", "other"] spCmp
  neg : Dn P w K mg base 1 "negated" ["truth"] spNeg
  both : Dr P w K mg base 1 "both" (spTr bothV)
  eith : Dr P w K mg base 1 "either" (spTr eithV)
  beg : Dn P w K mg base 1 "_law_begin" ["_law_script"] (spBegin K)
  order : Dn P w K mg base 1 "_law_order" ["_law_value_here"] spPlace
  value : Dn P w K mg base 3 "_law_value" ["_law_tape", "_law_kind"] spVal
  compd : Dn P w K mg base 2 "_law_compared" ["_law_sign", "_law_one", "_law_other"] spCmp
  fold : Dn P w K mg base 1 "_law_fold" ["_law_truths", "_law_is_all"] (spFold K)
abbrev n_law : List Str := ["_law_script", "_law_tape", "_law_truths", "_law_a", "_law_b", "_law_c", "_law_values", "_law_one", "_law_other", "_law_sign"]
theorem sc_law : FnScope n_law ["_law_script"] (defScope sLaw) := ⟨rfl, rfl, rfl, by decide +kernel, rfl, by decide +kernel, by decide +kernel⟩
theorem law_body {P : Program} {w : World} {K : PySem.W.Frag} {mg : Str → Option Value} {base : Heap} (B : Blt mg) (D : Defs P w K mg base) {f : Addr} {cdv : Value} {s₁ : Shared} {H : Hp} {a : Addr} {ns : List Int} (hS : SqL K H a (ns.map V.int))
    (hr : Room 4 (callerA.deeper (PyProof.Rows.envOfC "law" (defScope sLaw) s₁.heap.objs.size f cdv))) (hg : (callerA.deeper (PyProof.Rows.envOfC "law" (defScope sLaw) s₁.heap.objs.size f cdv)).guards = some []) :
    ∃ t, PSs (cxOf CX0 P w K mg base n_law "law" (defScope sLaw) f cdv callerA [] s₁ H fun _ _ _ => False).nox (defBody sLaw) t ∧ t { nx := fun _ _ => V.non = V.bl true, rt := fun v _ => v = .bl true } (start n_law [.ref a]) H := by
  have hr1 : Room 1 _ := hr.mono (by decide)
  have hr2 : Room 2 _ := hr.mono (by decide)
  have hr3 : Room 3 _ := hr.mono (by decide)
  have hu : (callerA.deeper (PyProof.Rows.envOfC "law" (defScope sLaw) s₁.heap.objs.size f cdv)).units + 30 < cLine := by have := hr.un; omega
  refine ⟨_, (pss_cons (ps_set (i := 1) sc_law.nd rfl (Or.inl rfl) (pe_dn D.beg hr1 (by rfl) (pa_cons (pv 0) pa_nil)))
      (pss_cons (ps_set (i := 2) sc_law.nd rfl (Or.inl rfl) (pe_lst (pa_cons pe_bl (pa_cons pe_non (pa_cons pe_bl pa_nil)))))
      (pss_cons (ps_for PassesOwn.never rfl (pi_list (pv 2)) (pg_name (i := 3) sc_law.nd rfl (Or.inl rfl)) (pss_cons (ps_if (pt_cmpR op_ne (pe_callB (call_repr_data hg hu) (by rfl) B.repr boot_repr (pa_cons (pe_lst (pa_cons (pe_dn D.neg hr1 (by rfl) (pa_cons (pv 3) pa_nil)) (pa_cons (pe_dr D.both hr1 (by rfl) (pa_cons (pv 3) pa_nil)) (pa_cons (pe_dr D.eith hr1 (by rfl) (pa_cons (pv 3) pa_nil)) pa_nil)))) pa_nil)) (pe_callB (call_repr_data hg hu) (by rfl) B.repr boot_repr (pa_cons (pe_lst (pa_cons (pe_ix ix_list (pe_lst (pa_cons pe_bl (pa_cons pe_non (pa_cons pe_bl pa_nil)))) (pe_bm PySem.F.plainAttrs_list PySem.F.slot_list_index PySem.F.type_list_index mt_index (pv 2) (pa_cons (pv 3) pa_nil)) (fun _ _ => rfl)) (pa_cons (pv 3) (pa_cons (pv 3) pa_nil)))) pa_nil)) (nomark _)) (pss_one (ps_ret pe_bl)) pss_nil)
      (pss_one (ps_for PassesOwn.never rfl (pi_list (pv 2)) (pg_name (i := 4) sc_law.nd rfl (Or.inl rfl)) (pss_cons (ps_if (pt_cmpR op_ne (pe_callB (call_repr_data hg hu) (by rfl) B.repr boot_repr (pa_cons (pe_lst (pa_cons (pe_dr D.both hr1 (by rfl) (pa_cons (pv 3) (pa_cons (pv 4) pa_nil))) (pa_cons (pe_dr D.eith hr1 (by rfl) (pa_cons (pv 3) (pa_cons (pv 4) pa_nil))) pa_nil))) pa_nil)) (pe_callB (call_repr_data hg hu) (by rfl) B.repr boot_repr (pa_cons (pe_lst (pa_cons (pe_dn D.fold hr1 (by rfl) (pa_cons (pe_lst (pa_cons (pv 3) (pa_cons (pv 4) pa_nil))) (pa_cons pe_bl pa_nil))) (pa_cons (pe_dn D.fold hr1 (by rfl) (pa_cons (pe_lst (pa_cons (pv 3) (pa_cons (pv 4) pa_nil))) (pa_cons pe_bl pa_nil))) pa_nil))) pa_nil)) (nomark _)) (pss_one (ps_ret pe_bl)) pss_nil)
      (pss_one (ps_for PassesOwn.never rfl (pi_list (pv 2)) (pg_name (i := 5) sc_law.nd rfl (Or.inl rfl)) (pss_one (ps_if (pt_cmpR op_ne (pe_callB (call_repr_data hg hu) (by rfl) B.repr boot_repr (pa_cons (pe_lst (pa_cons (pe_dr D.both hr1 (by rfl) (pa_cons (pv 3) (pa_cons (pv 4) (pa_cons (pv 5) pa_nil)))) (pa_cons (pe_dr D.eith hr1 (by rfl) (pa_cons (pv 3) (pa_cons (pv 4) (pa_cons (pv 5) pa_nil)))) pa_nil))) pa_nil)) (pe_callB (call_repr_data hg hu) (by rfl) B.repr boot_repr (pa_cons (pe_lst (pa_cons (pe_dn D.fold hr1 (by rfl) (pa_cons (pe_lst (pa_cons (pv 3) (pa_cons (pv 4) (pa_cons (pv 5) pa_nil)))) (pa_cons pe_bl pa_nil))) (pa_cons (pe_dn D.fold hr1 (by rfl) (pa_cons (pe_lst (pa_cons (pv 3) (pa_cons (pv 4) (pa_cons (pv 5) pa_nil)))) (pa_cons pe_bl pa_nil))) pa_nil))) pa_nil)) (nomark _)) (pss_one (ps_ret pe_bl)) pss_nil)))))))))
      (pss_cons (ps_if (pw_or (pt_cmpR op_notBl (pe_dr0 D.both hr1 (by rfl)) pe_bl (nomark _)) (pw_or1 (pt_cmpR op_notBl (pe_dr0 D.eith hr1 (by rfl)) pe_bl (nomark _)))).pt (pss_one (ps_ret pe_bl)) pss_nil)
      (pss_cons (ps_set (i := 6) sc_law.nd rfl (Or.inl rfl) (pe_lst (pa_cons pe_non (pa_cons pe_str (pa_cons pe_str (pa_cons pe_str (pa_cons pe_str (pa_cons pe_str (pa_cons (pe_un un_neg pe_int) (pa_cons pe_int (pa_cons pe_int (pa_cons (pe_op op_pow pe_int pe_int) (pa_cons pe_str (pa_cons (pe_dn D.value hr3 (by rfl) (pa_cons (pv 1) (pa_cons pe_str pa_nil))) (pa_cons (pe_dn D.value hr3 (by rfl) (pa_cons (pv 1) (pa_cons pe_str pa_nil))) pa_nil)))))))))))))))
      (pss_cons (ps_for PassesOwn.never rfl (pi_list (pv 6)) (pg_name (i := 7) sc_law.nd rfl (Or.inl rfl)) (pss_one (ps_for PassesOwn.never rfl (pi_list (pv 6)) (pg_name (i := 8) sc_law.nd rfl (Or.inl rfl)) (pss_cons (ps_if (pt_cmpR op_ne (pe_callB (call_repr_data hg hu) (by rfl) B.repr boot_repr (pa_cons (pe_dn D.same hr1 (by rfl) (pa_cons (pv 7) (pa_cons (pv 8) pa_nil))) pa_nil)) (pe_callB (call_repr_data hg hu) (by rfl) B.repr boot_repr (pa_cons (pe_cmpR (op_eqD hr.units) (pe_dn D.order hr1 (by rfl) (pa_cons (pv 7) pa_nil)) (pe_dn D.order hr1 (by rfl) (pa_cons (pv 8) pa_nil)) (nomark _)) pa_nil)) (nomark _)) (pss_one (ps_ret pe_bl)) pss_nil)
      (pss_one (ps_for PassesOwn.never rfl (pi_list (pe_lst (pa_cons pe_str (pa_cons pe_str (pa_cons pe_str (pa_cons pe_str (pa_cons pe_str (pa_cons pe_str pa_nil)))))))) (pg_name (i := 9) sc_law.nd rfl (Or.inl rfl)) (pss_one (ps_if (pt_cmpR op_ne (pe_callB (call_repr_data hg hu) (by rfl) B.repr boot_repr (pa_cons (pe_dn D.cmp hr2 (by rfl) (pa_cons (pv 9) (pa_cons (pv 7) (pa_cons (pv 8) pa_nil)))) pa_nil)) (pe_callB (call_repr_data hg hu) (by rfl) B.repr boot_repr (pa_cons (pe_dn D.compd hr2 (by rfl) (pa_cons (pv 9) (pa_cons (pv 7) (pa_cons (pv 8) pa_nil)))) pa_nil)) (nomark _)) (pss_one (ps_ret pe_bl)) pss_nil))))))))
      (pss_one (ps_ret pe_bl)))))))), ?_⟩
  refine ⟨_, rfl, a, ns, rfl, hS, fun d H0 hd0 T0 s0 => ⟨by show 3 ≤ sizeLine; decide, fun L hL => ?_⟩⟩
  have T1 : Tape (L2.upd H0 L (.lst three)) d 0 := T0.new hL _
  have atL : ∀ {H' : Hp}, Same (L2.upd H0 L (.lst three)) H' → H' L = some (.lst three) := fun s => s _ _ upd_same
  refine ⟨_, rfl, L, rfl, ⟨_, SqL.of upd_same⟩, for_list (xs := three) (fun i σ H' => ∃ u3 u4 u5, σ = [some (.ref a), some (.ref d), some (.ref L), u3, u4, u5, none, none, none, none] ∧ Same (L2.upd H0 L (.lst three)) H') ⟨none, none, none, rfl, Same.refl _⟩ (fun i σ H' _ q => SqL.of (atL q.choose_spec.choose_spec.choose_spec.2)) ?_ ?_⟩
  · rintro i x σ H' hx ⟨u3, u4, u5, rfl, s⟩
    have hx' := hx
    have hx := three_at hx'
    refine ⟨_, rfl, x, rfl, hx.tr, _, rfl, mem1 hx.tr, by show 1 ≤ 100; decide, fun H1 s1 => ⟨_, rfl, mem1 hx.tr, by show 1 ≤ 100; decide, fun H2 s2 => ⟨by show 3 ≤ sizeLine; decide, fun l1 q1 => ⟨.ref l1, .list [tD (negV x), tD x, tD x], rfl, .lst (SqL.of upd_same) (.cons (dpT ?tn) (.cons (dpT' hx.tr hx.one.1) (.cons (dpT' hx.tr hx.one.2) .nil))), hx.rep.1, hx.rep.2.1, hx.rep.2.2.1, hx.rep.2.2.2, ?_⟩⟩⟩⟩
    case tn => cases x <;> first | trivial | exact hx.tr.elim
    have S1 := fun (o1 : HO) => (s).trans ((s1).trans ((s2).trans (same_new q1 o1)))
    refine ⟨by show 3 ≤ sizeLine; decide, fun l2 q2 => ⟨_, rfl, .inl ⟨rfl, _, SqL.of (atL ((S1 _).trans (same_new q2 _)))⟩, _, rfl, L, three, x, i, x, rfl, rfl, SqL.of (atL ((S1 _).trans (same_new q2 _))), hx.flat, rfl, hx', hx.self, hx.ahead, ?_⟩⟩
    refine ⟨l2, _, _, _, rfl, rfl, SqL.of upd_same, atI_nat hx.opp, ?_⟩
    refine ⟨_, rfl, _, rfl, by show 3 ≤ sizeLine; decide, fun l3 q3 => ⟨.ref l3, .list [tD (negV x), tD x, tD x], rfl, .lst (SqL.of upd_same) (.cons (dpT ?tn2) (.cons (dpT hx.tr) (.cons (dpT hx.tr) .nil))), hx.rep.1, hx.rep.2.1, hx.rep.2.2.1, hx.rep.2.2.2, rfl, _, rfl, iteNE rfl ?_⟩⟩
    case tn2 => cases x <;> first | trivial | exact hx.tr.elim
    have S2 := fun (o : HO) => (S1 _).trans ((same_new q2 _).trans (same_new q3 o))
    refine ⟨_, rfl, L, rfl, ⟨_, SqL.of (atL (S2 _))⟩, for_list (xs := three) (fun i σ H' => ∃ u4 u5, σ = [some (.ref a), some (.ref d), some (.ref L), some x, u4, u5, none, none, none, none] ∧ Same (L2.upd H0 L (.lst three)) H') ⟨_, _, rfl, S2 _⟩ (fun i σ H' _ q => SqL.of (atL q.choose_spec.choose_spec.2)) ?_ ?_⟩
    · rintro j y σ H' hy ⟨u4, u5, rfl, s⟩
      have hy := three_at hy
      refine ⟨_, rfl, _, rfl, mem2 hx.tr hy.tr, by show 2 ≤ 100; decide, fun H1 s1 => ⟨_, rfl, _, rfl, mem2 hx.tr hy.tr, by show 2 ≤ 100; decide, fun H2 s2 => ⟨by show 2 ≤ sizeLine; decide, fun l1 q1 => ⟨.ref l1, _, rfl, .lst (SqL.of upd_same) (.cons (dpT (tr_both [x, y])) (.cons (dpT (tr_eith [x, y])) .nil)), (ok2 (tr_both [x, y]) (tr_eith [x, y])).1, (ok2 (tr_both [x, y]) (tr_eith [x, y])).2.1, (ok2 (tr_both [x, y]) (tr_eith [x, y])).2.2.1, (ok2 (tr_both [x, y]) (tr_eith [x, y])).2.2.2, ?_⟩⟩⟩⟩
      refine ⟨_, rfl, _, rfl, by show 2 ≤ sizeLine; decide, fun l2 q2 => ⟨l2, [x, y], true, rfl, SqL.of upd_same, mem2 hx.tr hy.tr, by show 2 ≤ 100; decide, fun H3 s3 => ⟨_, rfl, _, rfl, by show 2 ≤ sizeLine; decide, fun l3 q3 => ⟨l3, [x, y], false, rfl, SqL.of upd_same, mem2 hx.tr hy.tr, by show 2 ≤ 100; decide, fun H4 s4 => ⟨by show 2 ≤ sizeLine; decide, fun l4 q4 => ⟨.ref l4, _, rfl, .lst (SqL.of upd_same) (.cons (dpT (tr_both [x, y])) (.cons (dpT (tr_eith [x, y])) .nil)), (ok2 (tr_both [x, y]) (tr_eith [x, y])).1, (ok2 (tr_both [x, y]) (tr_eith [x, y])).2.1, (ok2 (tr_both [x, y]) (tr_eith [x, y])).2.2.1, (ok2 (tr_both [x, y]) (tr_eith [x, y])).2.2.2, ?_⟩⟩⟩⟩⟩⟩
      refine ⟨rfl, _, rfl, iteNE rfl ?_⟩
      have S3 := fun (o : HO) => (s).trans ((s1).trans ((s2).trans ((same_new q1 _).trans ((same_new q2 _).trans ((s3).trans ((same_new q3 _).trans ((s4).trans (same_new q4 o))))))))
      refine ⟨_, rfl, L, rfl, ⟨_, SqL.of (atL (S3 _))⟩, for_list (xs := three) (fun i σ H' => ∃ u5, σ = [some (.ref a), some (.ref d), some (.ref L), some x, some y, u5, none, none, none, none] ∧ Same (L2.upd H0 L (.lst three)) H') ⟨_, rfl, S3 _⟩ (fun i σ H' _ q => SqL.of (atL q.choose_spec.2)) ?_ ?_⟩
      · rintro m v σ H' hv ⟨u5, rfl, s⟩
        have hv := three_at hv
        refine ⟨_, rfl, _, rfl, _, rfl, mem3 hx.tr hy.tr hv.tr, by show 3 ≤ 100; decide, fun H1 s1 => ⟨_, rfl, _, rfl, _, rfl, mem3 hx.tr hy.tr hv.tr, by show 3 ≤ 100; decide, fun H2 s2 => ⟨by show 2 ≤ sizeLine; decide, fun l1 q1 => ⟨.ref l1, _, rfl, .lst (SqL.of upd_same) (.cons (dpT (tr_both [x, y, v])) (.cons (dpT (tr_eith [x, y, v])) .nil)), (ok2 (tr_both [x, y, v]) (tr_eith [x, y, v])).1, (ok2 (tr_both [x, y, v]) (tr_eith [x, y, v])).2.1, (ok2 (tr_both [x, y, v]) (tr_eith [x, y, v])).2.2.1, (ok2 (tr_both [x, y, v]) (tr_eith [x, y, v])).2.2.2, ?_⟩⟩⟩⟩
        refine ⟨_, rfl, _, rfl, _, rfl, by show 3 ≤ sizeLine; decide, fun l2 q2 => ⟨l2, [x, y, v], true, rfl, SqL.of upd_same, mem3 hx.tr hy.tr hv.tr, by show 3 ≤ 100; decide, fun H3 s3 => ⟨_, rfl, _, rfl, _, rfl, by show 3 ≤ sizeLine; decide, fun l3 q3 => ⟨l3, [x, y, v], false, rfl, SqL.of upd_same, mem3 hx.tr hy.tr hv.tr, by show 3 ≤ 100; decide, fun H4 s4 => ⟨by show 2 ≤ sizeLine; decide, fun l4 q4 => ⟨.ref l4, _, rfl, .lst (SqL.of upd_same) (.cons (dpT (tr_both [x, y, v])) (.cons (dpT (tr_eith [x, y, v])) .nil)), (ok2 (tr_both [x, y, v]) (tr_eith [x, y, v])).1, (ok2 (tr_both [x, y, v]) (tr_eith [x, y, v])).2.1, (ok2 (tr_both [x, y, v]) (tr_eith [x, y, v])).2.2.1, (ok2 (tr_both [x, y, v]) (tr_eith [x, y, v])).2.2.2, ?_⟩⟩⟩⟩⟩⟩
        exact ⟨rfl, _, rfl, iteNE rfl ⟨_, rfl, (s).trans ((s1).trans ((s2).trans ((same_new q1 _).trans ((same_new q2 _).trans ((s3).trans ((same_new q3 _).trans ((s4).trans (same_new q4 _))))))))⟩⟩
      · rintro σ H' ⟨u5, rfl, s⟩
        exact ⟨_, _, rfl, s⟩
    · rintro σ H' ⟨u4, u5, rfl, s⟩
      exact ⟨_, _, _, rfl, s⟩
  · rintro σ H' ⟨u3, u4, u5, rfl, s⟩
    refine ⟨all_nil, by show 0 ≤ 100; decide, fun H1 s1 => ⟨true, true, rfl, rfl, _, rfl, ifF rfl ⟨all_nil, by show 0 ≤ 100; decide, fun H2 s2 => ⟨false, false, rfl, rfl, _, rfl, ifF rfl ?_⟩⟩⟩⟩
    have T2 : Tape H2 d 0 := ((T1.same s).same s1).same s2
    refine ⟨1, rfl, 10, 20, rfl, rfl, ⟨by decide, by decide, by decide⟩, _, rfl, d, _, 0, rfl, T2, by omega, fun v1 p1 H3 hv1 T3 hp1 o1 => ⟨_, rfl, d, _, p1, rfl, T3, by omega, fun v2 p2 H4 hv2 T4 hp2 o2 => ⟨by show 13 ≤ sizeLine; decide, fun l hl => ?_⟩⟩⟩
    have vok := vsL_ok hv1 hv2
    have atl : ∀ {H' : Hp}, Same (L2.upd H4 l (.lst (vsL v1 v2))) H' → H' l = some (.lst (vsL v1 v2)) := fun s => s _ _ upd_same
    refine ⟨_, rfl, l, rfl, ⟨_, SqL.of upd_same⟩, for_list (xs := vsL v1 v2) (fun i σ H' => ∃ u7 u8 u9, σ = [some (.ref a), some (.ref d), some (.ref L), u3, u4, u5, some (.ref l), u7, u8, u9] ∧ Same (L2.upd H4 l (.lst (vsL v1 v2))) H') ⟨_, _, _, rfl, Same.refl _⟩ (fun i σ H' _ q => SqL.of (atl q.choose_spec.choose_spec.choose_spec.2)) ?_ ?_⟩
    · rintro i x σ H' hx ⟨u7, u8, u9, rfl, s⟩
      have hx := vok _ (List.mem_of_getElem? hx)
      refine ⟨_, rfl, l, rfl, ⟨_, SqL.of (atl s)⟩, for_list (xs := vsL v1 v2) (fun i σ H' => ∃ u8 u9, σ = [some (.ref a), some (.ref d), some (.ref L), u3, u4, u5, some (.ref l), some x, u8, u9] ∧ Same (L2.upd H4 l (.lst (vsL v1 v2))) H') ⟨_, _, rfl, s⟩ (fun i σ H' _ q => SqL.of (atl q.choose_spec.choose_spec.2)) ?_ ?_⟩
      · rintro j y σ H' hy ⟨u8, u9, rfl, s⟩
        have hy := vok _ (List.mem_of_getElem? hy)
        refine ⟨_, rfl, _, rfl, x, y, rfl, hx, hy, .bl _, .bool _, rfl, .bl _, (okB _).1, (okB _).2.1, (okB _).2.2.1, (okB _).2.2.2, ?_⟩
        refine ⟨_, rfl, x, rfl, hx, fun p hp => ⟨_, rfl, y, rfl, hy, fun p' hp' => ?_⟩⟩
        have n1 : p ≠ p' := ne_of_none upd_same hp'
        refine ⟨plD x, plD y, pl_dp (SqT.of (by rw [upd_ne n1]; exact upd_same)), pl_dp (SqT.of upd_same), pl_shaped hx, pl_shaped hy, .bl _, .bool _, rfl, .bl _, (okB _).1, (okB _).2.1, (okB _).2.2.1, (okB _).2.2.2, rfl, _, rfl, iteNE (by rw [pl_eqv hx hy]) ?_⟩
        have S5 := fun (o : HO) => (s).trans ((same_new hp _).trans (same_new hp' o))
        refine ⟨by show 6 ≤ sizeLine; decide, fun q hq => ⟨q, rfl, ⟨_, SqL.of upd_same⟩, for_list (xs := sgL) (fun i σ H' => ∃ u9, σ = [some (.ref a), some (.ref d), some (.ref L), u3, u4, u5, some (.ref l), some x, some y, u9] ∧ Same (L2.upd H4 l (.lst (vsL v1 v2))) H' ∧ H' q = some (.lst sgL)) ⟨_, rfl, (S5 _).trans (same_new hq _), upd_same⟩ (fun i σ H' _ q => SqL.of q.choose_spec.2.2) ?_ ?_⟩⟩
        · rintro k v σ H' hv ⟨u9, rfl, s, aq⟩
          obtain ⟨hk, rfl⟩ := sgL_at hv
          have tc := tr_cmp k x y
          refine ⟨_, rfl, _, rfl, _, rfl, k, x, y, rfl, hk, hx, hy, fun H1 s1 => ⟨cmpV k x y, tD (cmpV k x y), rfl, dpT tc, (ok1 tc).1, (ok1 tc).2.1, (ok1 tc).2.2.1, (ok1 tc).2.2.2, ?_⟩⟩
          refine ⟨_, rfl, _, rfl, _, rfl, k, x, y, rfl, hk, hx, hy, fun H2 s2 => ⟨cmpV k x y, tD (cmpV k x y), rfl, dpT tc, (ok1 tc).1, (ok1 tc).2.1, (ok1 tc).2.2.1, (ok1 tc).2.2.2, ?_⟩⟩
          exact ⟨rfl, _, rfl, iteNE rfl ⟨_, rfl, s.trans (s1.trans s2), s2 _ _ (s1 _ _ aq)⟩⟩
        · rintro σ H' ⟨u9, rfl, s, _⟩
          exact ⟨_, _, rfl, s⟩
      · rintro σ H' ⟨u8, u9, rfl, s⟩
        exact ⟨_, _, _, rfl, s⟩
    · rintro σ H' ⟨u7, u8, u9, rfl, s⟩
      exact rfl
end Ask
namespace Ask
open PySem L2 PyProof.Rows
theorem all_mk {l : PySem.W.OpenLaw} {w : World} {K : PySem.W.Frag} {h : Heap} {mg : Str → Option Value} {f1 f2 f3 f4 f5 f6 f7 f8 f9 f10 f11 f12 f13 f14 fa : Addr} (X : K.In h) (G : h.Ns mainGlobals mg) (hfa : mg "law" = some (.ref fa))
    {od1 an1 : Option Addr} {sl1 : Array (Option Value)} {oc1 kV1 dc1 pm1 cd1 ct1 : Value} {od2 an2 : Option Addr} {sl2 : Array (Option Value)} {oc2 kV2 dc2 pm2 cd2 ct2 : Value} {od3 an3 : Option Addr} {sl3 : Array (Option Value)} {oc3 kV3 dc3 pm3 cd3 ct3 : Value} {od4 an4 : Option Addr} {sl4 : Array (Option Value)} {oc4 kV4 dc4 pm4 cd4 ct4 : Value} {od5 an5 : Option Addr} {sl5 : Array (Option Value)} {oc5 kV5 dc5 pm5 cd5 ct5 : Value} {od6 an6 : Option Addr} {sl6 : Array (Option Value)} {oc6 kV6 dc6 pm6 cd6 ct6 : Value} {od7 an7 : Option Addr} {sl7 : Array (Option Value)} {oc7 kV7 dc7 pm7 cd7 ct7 : Value} {od8 an8 : Option Addr} {sl8 : Array (Option Value)} {oc8 kV8 dc8 pm8 cd8 ct8 : Value} {od9 an9 : Option Addr} {sl9 : Array (Option Value)} {oc9 kV9 dc9 pm9 cd9 ct9 : Value} {od10 an10 : Option Addr} {sl10 : Array (Option Value)} {oc10 kV10 dc10 pm10 cd10 ct10 : Value} {od11 an11 : Option Addr} {sl11 : Array (Option Value)} {oc11 kV11 dc11 pm11 cd11 ct11 : Value} {od12 an12 : Option Addr} {sl12 : Array (Option Value)} {oc12 kV12 dc12 pm12 cd12 ct12 : Value} {od13 an13 : Option Addr} {sl13 : Array (Option Value)} {oc13 kV13 dc13 pm13 cd13 ct13 : Value} {od14 an14 : Option Addr} {sl14 : Array (Option Value)} {oc14 kV14 dc14 pm14 cd14 ct14 : Value}
    (a1 : PySem.W.nsIn K mainGlobals "same" = some (some (.ref f1))) (l1 : K.lookup f1 = some ⟨oc1, od1, .func (PySem.W.fnOf "same" "same" (defArgs sSame) (defBody sSame) (defScope sSame) .none kV1 dc1 pm1 an1 cd1 ct1), sl1⟩) (c1 : PySem.W.codeIn K cd1 "same" = true) (k1 : PySem.W.keepIn K (.ref f1) = true)
    (a2 : PySem.W.nsIn K mainGlobals "value_place" = some (some (.ref f2))) (l2 : K.lookup f2 = some ⟨oc2, od2, .func (PySem.W.fnOf "value_place" "value_place" (defArgs sPlace) (defBody sPlace) (defScope sPlace) .none kV2 dc2 pm2 an2 cd2 ct2), sl2⟩) (c2 : PySem.W.codeIn K cd2 "value_place" = true) (k2 : PySem.W.keepIn K (.ref f2) = true)
    (a3 : PySem.W.nsIn K mainGlobals "compare" = some (some (.ref f3))) (l3 : K.lookup f3 = some ⟨oc3, od3, .func (PySem.W.fnOf "compare" "compare" (defArgs sCompare) (defBody sCompare) (defScope sCompare) .none kV3 dc3 pm3 an3 cd3 ct3), sl3⟩) (c3 : PySem.W.codeIn K cd3 "compare" = true) (k3 : PySem.W.keepIn K (.ref f3) = true)
    (a4 : PySem.W.nsIn K mainGlobals "negated" = some (some (.ref f4))) (l4 : K.lookup f4 = some ⟨oc4, od4, .func (PySem.W.fnOf "negated" "negated" (defArgs sNeg) (defBody sNeg) (defScope sNeg) .none kV4 dc4 pm4 an4 cd4 ct4), sl4⟩) (c4 : PySem.W.codeIn K cd4 "negated" = true) (k4 : PySem.W.keepIn K (.ref f4) = true)
    (a5 : PySem.W.nsIn K mainGlobals "both" = some (some (.ref f5))) (l5 : K.lookup f5 = some ⟨oc5, od5, .func (PySem.W.fnOf "both" "both" (defArgs sBoth) (defBody sBoth) (defScope sBoth) .none kV5 dc5 pm5 an5 cd5 ct5), sl5⟩) (c5 : PySem.W.codeIn K cd5 "both" = true) (k5 : PySem.W.keepIn K (.ref f5) = true)
    (a6 : PySem.W.nsIn K mainGlobals "either" = some (some (.ref f6))) (l6 : K.lookup f6 = some ⟨oc6, od6, .func (PySem.W.fnOf "either" "either" (defArgs sEither) (defBody sEither) (defScope sEither) .none kV6 dc6 pm6 an6 cd6 ct6), sl6⟩) (c6 : PySem.W.codeIn K cd6 "either" = true) (k6 : PySem.W.keepIn K (.ref f6) = true)
    (a7 : PySem.W.nsIn K mainGlobals "_law_begin" = some (some (.ref f7))) (l7 : K.lookup f7 = some ⟨oc7, od7, .func (PySem.W.fnOf "_law_begin" "_law_begin" (defArgs sBegin) (defBody sBegin) (defScope sBegin) .none kV7 dc7 pm7 an7 cd7 ct7), sl7⟩) (c7 : PySem.W.codeIn K cd7 "_law_begin" = true) (k7 : PySem.W.keepIn K (.ref f7) = true)
    (a8 : PySem.W.nsIn K mainGlobals "_law_draw" = some (some (.ref f8))) (l8 : K.lookup f8 = some ⟨oc8, od8, .func (PySem.W.fnOf "_law_draw" "_law_draw" (defArgs sDraw) (defBody sDraw) (defScope sDraw) .none kV8 dc8 pm8 an8 cd8 ct8), sl8⟩) (c8 : PySem.W.codeIn K cd8 "_law_draw" = true) (k8 : PySem.W.keepIn K (.ref f8) = true)
    (a9 : PySem.W.nsIn K mainGlobals "_law_pick" = some (some (.ref f9))) (l9 : K.lookup f9 = some ⟨oc9, od9, .func (PySem.W.fnOf "_law_pick" "_law_pick" (defArgs sPick) (defBody sPick) (defScope sPick) .none kV9 dc9 pm9 an9 cd9 ct9), sl9⟩) (c9 : PySem.W.codeIn K cd9 "_law_pick" = true) (k9 : PySem.W.keepIn K (.ref f9) = true)
    (a10 : PySem.W.nsIn K mainGlobals "_law_order" = some (some (.ref f10))) (l10 : K.lookup f10 = some ⟨oc10, od10, .func (PySem.W.fnOf "_law_order" "_law_order" (defArgs sOrder) (defBody sOrder) (defScope sOrder) .none kV10 dc10 pm10 an10 cd10 ct10), sl10⟩) (c10 : PySem.W.codeIn K cd10 "_law_order" = true) (k10 : PySem.W.keepIn K (.ref f10) = true)
    (a11 : PySem.W.nsIn K mainGlobals "_law_value" = some (some (.ref f11))) (l11 : K.lookup f11 = some ⟨oc11, od11, .func (PySem.W.fnOf "_law_value" "_law_value" (defArgs sVal) (defBody sVal) (defScope sVal) .none kV11 dc11 pm11 an11 cd11 ct11), sl11⟩) (c11 : PySem.W.codeIn K cd11 "_law_value" = true) (k11 : PySem.W.keepIn K (.ref f11) = true)
    (a12 : PySem.W.nsIn K mainGlobals "_law_compared" = some (some (.ref f12))) (l12 : K.lookup f12 = some ⟨oc12, od12, .func (PySem.W.fnOf "_law_compared" "_law_compared" (defArgs sCompd) (defBody sCompd) (defScope sCompd) .none kV12 dc12 pm12 an12 cd12 ct12), sl12⟩) (c12 : PySem.W.codeIn K cd12 "_law_compared" = true) (k12 : PySem.W.keepIn K (.ref f12) = true)
    (a13 : PySem.W.nsIn K mainGlobals "_law_fold" = some (some (.ref f13))) (l13 : K.lookup f13 = some ⟨oc13, od13, .func (PySem.W.fnOf "_law_fold" "_law_fold" (defArgs sFold) (defBody sFold) (defScope sFold) .none kV13 dc13 pm13 an13 cd13 ct13), sl13⟩) (c13 : PySem.W.codeIn K cd13 "_law_fold" = true) (k13 : PySem.W.keepIn K (.ref f13) = true)
    (a14 : PySem.W.nsIn K mainGlobals "law" = some (some (.ref f14))) (l14 : K.lookup f14 = some ⟨oc14, od14, .func (PySem.W.fnOf "law" "law" (defArgs sLaw) (defBody sLaw) (defScope sLaw) .none kV14 dc14 pm14 an14 cd14 ct14), sl14⟩) (c14 : PySem.W.codeIn K cd14 "law" = true) (k14 : PySem.W.keepIn K (.ref f14) = true)
    (z0 : PySem.W.nsIn K mainGlobals "len" = some none)    (z1 : PySem.W.nsIn K mainGlobals "int" = some none)    (z2 : PySem.W.nsIn K mainGlobals "str" = some none)    (z3 : PySem.W.nsIn K mainGlobals "isinstance" = some none)    (z4 : PySem.W.nsIn K mainGlobals "min" = some none)    (z5 : PySem.W.nsIn K mainGlobals "max" = some none)    (z6 : PySem.W.nsIn K mainGlobals "repr" = some none)
 :
    ∃ fd : FuncData, Fun K "law" "law" sLaw fa fd ∧ (∀ (s : Shared) (u : Value), BindsTo s fd ⟨[u], []⟩ [("_law_script", u)]) ∧ ∀ (base : Heap) (s₁ : Shared) (H : Hp) (a : Addr) (ns : List Int) (cdv : Value), K.In base → base.Ns mainGlobals mg → SqL K H a (ns.map V.int) → ns.length ≤ 63 →
      Room 4 (callerA.deeper (envOfC "law" (defScope sLaw) s₁.heap.objs.size fa cdv)) → (callerA.deeper (envOfC "law" (defScope sLaw) s₁.heap.objs.size fa cdv)).guards = some [] →
      ∃ t, PSs (cxOf CX0 l.prog w K mg base n_law "law" (defScope sLaw) fa cdv callerA [] s₁ H fun _ _ _ => False).nox (defBody sLaw) t ∧ t { nx := fun _ _ => V.non = V.bl true, rt := fun v _ => v = .bl true } (start n_law [.ref a]) H := by
  have e := hfa.symm.trans (PySem.W.mg_of X G a14)
  cases e
  have B : Blt mg := ⟨PySem.W.mg_none_of X G z0, PySem.W.mg_none_of X G z1, PySem.W.mg_none_of X G z2, PySem.W.mg_none_of X G z3, PySem.W.mg_none_of X G z4, PySem.W.mg_none_of X G z5, PySem.W.mg_none_of X G z6⟩
  have F1 := fun_mk (st := sSame) l1 c1 k1
  have b1 := F1.binds (ps := ["one", "other"]) fun _ _ _ _ _ _ us hl => match us, hl with | [_, _], _ => rfl
  have F2 := fun_mk (st := sPlace) l2 c2 k2
  have b2 := F2.binds (ps := ["value"]) fun _ _ _ _ _ _ us hl => match us, hl with | [_], _ => rfl
  have F3 := fun_mk (st := sCompare) l3 c3 k3
  have b3 := F3.binds (ps := ["sign", "one", "other"]) fun _ _ _ _ _ _ us hl => match us, hl with | [_, _, _], _ => rfl
  have F4 := fun_mk (st := sNeg) l4 c4 k4
  have b4 := F4.binds (ps := ["truth"]) fun _ _ _ _ _ _ us hl => match us, hl with | [_], _ => rfl
  have F5 := fun_mk (st := sBoth) l5 c5 k5
  have F6 := fun_mk (st := sEither) l6 c6 k6
  have F7 := fun_mk (st := sBegin) l7 c7 k7
  have b7 := F7.binds (ps := ["_law_script"]) fun _ _ _ _ _ _ us hl => match us, hl with | [_], _ => rfl
  have F8 := fun_mk (st := sDraw) l8 c8 k8
  have b8 := F8.binds (ps := ["_law_tape", "_law_many"]) fun _ _ _ _ _ _ us hl => match us, hl with | [_, _], _ => rfl
  have F9 := fun_mk (st := sPick) l9 c9 k9
  have b9 := F9.binds (ps := ["_law_tape", "_law_items"]) fun _ _ _ _ _ _ us hl => match us, hl with | [_, _], _ => rfl
  have F10 := fun_mk (st := sOrder) l10 c10 k10
  have b10 := F10.binds (ps := ["_law_value_here"]) fun _ _ _ _ _ _ us hl => match us, hl with | [_], _ => rfl
  have F11 := fun_mk (st := sVal) l11 c11 k11
  have b11 := F11.binds (ps := ["_law_tape", "_law_kind"]) fun _ _ _ _ _ _ us hl => match us, hl with | [_, _], _ => rfl
  have F12 := fun_mk (st := sCompd) l12 c12 k12
  have b12 := F12.binds (ps := ["_law_sign", "_law_one", "_law_other"]) fun _ _ _ _ _ _ us hl => match us, hl with | [_, _, _], _ => rfl
  have F13 := fun_mk (st := sFold) l13 c13 k13
  have b13 := F13.binds (ps := ["_law_truths", "_law_is_all"]) fun _ _ _ _ _ _ us hl => match us, hl with | [_, _], _ => rfl
  have F14 := fun_mk (st := sLaw) l14 c14 k14
  refine ⟨_, F14, fun s v => .of_eq rfl, fun base s₁ H a ns cdv _ _ hS _ hr hg => ?_⟩
  have D1 : Dn l.prog w K mg base 1 "same" ["one", "other"] spSame := ⟨f1, _, PySem.W.mg_of X G a1, k1, b1, ok_same F1 B⟩
  have D2 : Dn l.prog w K mg base 1 "value_place" ["value"] spPlace := ⟨f2, _, PySem.W.mg_of X G a2, k2, b2, ok_value_place F2 B⟩
  have D3 : Dn l.prog w K mg base 2 "compare" ["sign", "one", "other"] spCmp := ⟨f3, _, PySem.W.mg_of X G a3, k3, b3, ok_compare F3 B D1 D2⟩
  have D4 : Dn l.prog w K mg base 1 "negated" ["truth"] spNeg := ⟨f4, _, PySem.W.mg_of X G a4, k4, b4, ok_negated F4 B⟩
  have D5 : Dr l.prog w K mg base 1 "both" (spTr bothV) := ⟨f5, PySem.W.mg_of X G a5, k5, ok_both F5⟩
  have D6 : Dr l.prog w K mg base 1 "either" (spTr eithV) := ⟨f6, PySem.W.mg_of X G a6, k6, ok_either F6⟩
  have D7 : Dn l.prog w K mg base 1 "_law_begin" ["_law_script"] (spBegin K) := ⟨f7, _, PySem.W.mg_of X G a7, k7, b7, ok_begin F7⟩
  have D8 : Dn l.prog w K mg base 1 "_law_draw" ["_law_tape", "_law_many"] spDraw := ⟨f8, _, PySem.W.mg_of X G a8, k8, b8, ok_draw F8 B⟩
  have D9 : Dn l.prog w K mg base 2 "_law_pick" ["_law_tape", "_law_items"] (spPick K) := ⟨f9, _, PySem.W.mg_of X G a9, k9, b9, ok_pick F9 B D8⟩
  have D10 : Dn l.prog w K mg base 1 "_law_order" ["_law_value_here"] spPlace := ⟨f10, _, PySem.W.mg_of X G a10, k10, b10, ok_law_order F10 B⟩
  have D11 : Dn l.prog w K mg base 3 "_law_value" ["_law_tape", "_law_kind"] spVal := ⟨f11, _, PySem.W.mg_of X G a11, k11, b11, ok_law_value F11 B D8 D9⟩
  have D12 : Dn l.prog w K mg base 2 "_law_compared" ["_law_sign", "_law_one", "_law_other"] spCmp := ⟨f12, _, PySem.W.mg_of X G a12, k12, b12, ok_law_compared F12 B D10⟩
  have D13 : Dn l.prog w K mg base 1 "_law_fold" ["_law_truths", "_law_is_all"] (spFold K) := ⟨f13, _, PySem.W.mg_of X G a13, k13, b13, ok_law_fold F13 B⟩
  exact law_body B ⟨D1, D3, D4, D5, D6, D7, D10, D11, D12, D13⟩ hS hr hg

end Ask
open PySem PySem.W PyProof.Rows
set_option maxRecDepth 100000 in
set_option maxHeartbeats 0 in
theorem PySem.Challenge.cw_innerasks_k03_whole_truths_holds : PySem.Challenge.rw_innerasks_k03_whole_truths.Holds := by
  w_on; o_law; k_head; (case hw => w_witness2)
  k_fill
  refine Ask.walk_g (l := PySem.Challenge.rw_innerasks_k03_whole_truths) (n := 63) (k := 4) (x := "_law_script") (qual := "law") (st := Ask.sLaw) (N := Ask.n_law) rfl (by decide) rfl ⟨rfl, by decide, by decide⟩ (fun w h Y => PySem.W.kIn_of Y) Ask.sc_law ?F
  case F =>
    intro w mg fa h KX G hmg
    refine' Ask.all_mk KX G hmg ?a1 ?l1 ?c1 ?k1 ?a2 ?l2 ?c2 ?k2 ?a3 ?l3 ?c3 ?k3 ?a4 ?l4 ?c4 ?k4 ?a5 ?l5 ?c5 ?k5 ?a6 ?l6 ?c6 ?k6 ?a7 ?l7 ?c7 ?k7 ?a8 ?l8 ?c8 ?k8 ?a9 ?l9 ?c9 ?k9 ?a10 ?l10 ?c10 ?k10 ?a11 ?l11 ?c11 ?k11 ?a12 ?l12 ?c12 ?k12 ?a13 ?l13 ?c13 ?k13 ?a14 ?l14 ?c14 ?k14 ?z0 ?z1 ?z2 ?z3 ?z4 ?z5 ?z6
    (case a1 => k_is)
    (case l1 => k_is)
    (case c1 => k_is)
    (case k1 => k_is)
    (case a2 => k_is)
    (case l2 => k_is)
    (case c2 => k_is)
    (case k2 => k_is)
    (case a3 => k_is)
    (case l3 => k_is)
    (case c3 => k_is)
    (case k3 => k_is)
    (case a4 => k_is)
    (case l4 => k_is)
    (case c4 => k_is)
    (case k4 => k_is)
    (case a5 => k_is)
    (case l5 => k_is)
    (case c5 => k_is)
    (case k5 => k_is)
    (case a6 => k_is)
    (case l6 => k_is)
    (case c6 => k_is)
    (case k6 => k_is)
    (case a7 => k_is)
    (case l7 => k_is)
    (case c7 => k_is)
    (case k7 => k_is)
    (case a8 => k_is)
    (case l8 => k_is)
    (case c8 => k_is)
    (case k8 => k_is)
    (case a9 => k_is)
    (case l9 => k_is)
    (case c9 => k_is)
    (case k9 => k_is)
    (case a10 => k_is)
    (case l10 => k_is)
    (case c10 => k_is)
    (case k10 => k_is)
    (case a11 => k_is)
    (case l11 => k_is)
    (case c11 => k_is)
    (case k11 => k_is)
    (case a12 => k_is)
    (case l12 => k_is)
    (case c12 => k_is)
    (case k12 => k_is)
    (case a13 => k_is)
    (case l13 => k_is)
    (case c13 => k_is)
    (case k13 => k_is)
    (case a14 => k_is)
    (case l14 => k_is)
    (case c14 => k_is)
    (case k14 => k_is)
    (case z0 => k_is)
    (case z1 => k_is)
    (case z2 => k_is)
    (case z3 => k_is)
    (case z4 => k_is)
    (case z5 => k_is)
    (case z6 => k_is)
