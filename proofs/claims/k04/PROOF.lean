import PyProof.Rows.All
import Wide.All
import OpenK.AllK
import Wide.FinOn
import HandS.ForMost
import HandS.Flow
import HandS.Small
import HandS.IsInst
import HandS.RaiseMore
import HandS.Walk
import HandS.FStr
import HandS.Style
import HandS.Codes
import HandS.Star
import HandS.Wide
import HandS.TupLe
import HandS.SortKw
import HandS.Sort
import KE.SortKeyHeap
import HandS.TryOnly
import KE.KMinKey
import PyProof.Rows.SetFrom
import HandS.SetKeys
import HandS.Defaults
import PyProof.ReprRoads
import KE.DatumIndex
import PySem.Challenge.RW_innerasks_k04_sums_and_aggregates
set_option Elab.async false
set_option maxRecDepth 100000
set_option maxHeartbeats 4000000
set_option linter.all false
set_option linter.all false
namespace Ask
open PySem L2
def top (i : Nat) : Stmt := PySem.Challenge.pw_innerasks_k04_sums_and_aggregates.main.body.getD i (.Pass ⟨0, 0, 0, 0⟩)
abbrev sWhole : Stmt := top 1
abbrev sPlace : Stmt := top 2
abbrev sReckon : Stmt := top 3
abbrev sAgg : Stmt := top 4
abbrev sBegin : Stmt := top 6
abbrev sDraw : Stmt := top 7
abbrev sPick : Stmt := top 8
abbrev sOrder : Stmt := top 9
abbrev sVal : Stmt := top 10
abbrev sReckd : Stmt := top 11
abbrev sTotd : Stmt := top 12
abbrev sLaw : Stmt := top 13
/-! ### the tape -/
abbrev kCells : Key := Sum.inr "cells"
abbrev kPlace : Key := Sum.inr "place"
abbrev kLeft : Key := Sum.inr "left"
theorem ne_cp : ¬ (kCells = kPlace) := by decide +kernel
theorem ne_cl : ¬ (kCells = kLeft) := by decide +kernel
theorem ne_pl : ¬ (kPlace = kLeft) := by decide +kernel
theorem ne_pc : ¬ (kPlace = kCells) := by decide +kernel
theorem ne_lc : ¬ (kLeft = kCells) := by decide +kernel
theorem ne_lp : ¬ (kLeft = kPlace) := by decide +kernel
def tapeD (c : Addr) (p l : Int) : List (Key × V) := [(kCells, .ref c), (kPlace, .int p), (kLeft, .int l)]
theorem tape_cells (c : Addr) (p l : Int) : valV (tapeD c p l) kCells = some (.ref c) := by
  unfold tapeD; rw [valV_pos rfl]
theorem tape_place (c : Addr) (p l : Int) : valV (tapeD c p l) kPlace = some (.int p) := by
  unfold tapeD; rw [valV_neg ne_cp, valV_pos rfl]
theorem tape_left (c : Addr) (p l : Int) : valV (tapeD c p l) kLeft = some (.int l) := by
  unfold tapeD; rw [valV_neg ne_cl, valV_neg ne_pl, valV_pos rfl]
theorem tape_put_place (c : Addr) (p l q : Int) : putK (tapeD c p l) kPlace (.int q) = tapeD c q l := by
  unfold putK tapeD
  rw [if_pos (by simp)]
  show [if kCells = kPlace then (kCells, V.int q) else (kCells, V.ref c), if kPlace = kPlace then (kPlace, V.int q) else (kPlace, V.int p), if kLeft = kPlace then (kLeft, V.int q) else (kLeft, V.int l)] = _
  rw [if_neg ne_cp, if_pos rfl, if_neg ne_lp]
theorem tape_put_left (c : Addr) (p l q : Int) : putK (tapeD c p l) kLeft (.int q) = tapeD c p q := by
  unfold putK tapeD
  rw [if_pos (by simp)]
  show [if kCells = kLeft then (kCells, V.int q) else (kCells, V.ref c), if kPlace = kLeft then (kPlace, V.int q) else (kPlace, V.int p), if kLeft = kLeft then (kLeft, V.int q) else (kLeft, V.int l)] = _
  rw [if_neg ne_cl, if_neg ne_pl, if_pos rfl]
/-- a tape at d, p draws of cells done -/
def Tape (H : Hp) (d : Addr) (p : Int) : Prop :=
  ∃ (c : Addr) (ns : List Int) (l : Int), H d = some (.dK (tapeD c p l)) ∧ H c = some (.lst (ns.map V.int)) ∧ ns ≠ [] ∧ 0 ≤ l ∧ 0 ≤ p
/-- all that was tracked is as it was, but for d, whose cells are the same -/
structure Off (H H' : Hp) (d : Addr) : Prop where
  keep : ∀ b o, H b = some o → b ≠ d → H' b = some o
  cell : ∀ kvs : List (Key × V), H d = some (.dK kvs) → ∃ kvs' : List (Key × V), H' d = some (.dK kvs') ∧ valV kvs' kCells = valV kvs kCells
instance {H H' : Hp} {d : Addr} : CoeFun (Off H H' d) (fun _ => ∀ b o, H b = some o → b ≠ d → H' b = some o) := ⟨Off.keep⟩
theorem Off.refl (H : Hp) (d : Addr) : Off H H d := ⟨fun _ _ h _ => h, fun kvs h => ⟨kvs, h, rfl⟩⟩
theorem Off.trans {H H1 H2 : Hp} {d : Addr} (a : Off H H1 d) (b : Off H1 H2 d) : Off H H2 d := ⟨fun c o h n => b c o (a c o h n) n, fun kvs h => by
  obtain ⟨k1, h1, e1⟩ := a.cell kvs h
  obtain ⟨k2, h2, e2⟩ := b.cell k1 h1
  exact ⟨k2, h2, e2.trans e1⟩⟩
theorem Off.of_same {H H1 : Hp} {d : Addr} (a : Same H H1) : Off H H1 d := ⟨fun c u h _ => a c u h, fun kvs h => ⟨kvs, a _ _ h, rfl⟩⟩
theorem Off.new {H H1 : Hp} {d p : Addr} (a : Off H H1 d) (hp : H1 p = none) (o : HO) : Off H (L2.upd H1 p o) d := a.trans (.of_same fun b u e => by rw [upd_ne (ne_of_none e hp)]; exact e)
theorem Tape.new {H : Hp} {d p : Addr} {i : Int} (t : Tape H d i) (hp : H p = none) (o : HO) : Tape (L2.upd H p o) d i := by
  obtain ⟨c, ns, l, h1, h2, h3, h4, h5⟩ := t
  exact ⟨c, ns, l, by rw [upd_ne (ne_of_none h1 hp)]; exact h1, by rw [upd_ne (ne_of_none h2 hp)]; exact h2, h3, h4, h5⟩
theorem Tape.same {H H1 : Hp} {d : Addr} {i : Int} (t : Tape H d i) (a : Same H H1) : Tape H1 d i := by
  obtain ⟨c, ns, l, h1, h2, h3, h4, h5⟩ := t
  exact ⟨c, ns, l, a _ _ h1, a _ _ h2, h3, h4, h5⟩
theorem Off.fresh {H H1 : Hp} {d D : Addr} (a : Off H H1 d) (hD : H D = none) (n : d ≠ D) (u : HO) : Off H (L2.upd H1 D u) d :=
  ⟨fun b o e nb => by rw [upd_ne (ne_of_none e hD)]; exact a b o e nb, fun kvs e => by
    obtain ⟨k1, h1, e1⟩ := a.cell kvs e
    exact ⟨k1, by rw [upd_ne n]; exact h1, e1⟩⟩
/-- a list that was made since, changed -/
theorem Tape.fresh {H0 H : Hp} {d D : Addr} {p0 p : Int} (T : Tape H d p) (T0 : Tape H0 d p0) (o : Off H0 H d) (hD : H0 D = none) (u : HO) : Tape (L2.upd H D u) d p := by
  obtain ⟨c0, ns0, l0, u1, u2, u3, u4, u5⟩ := T0
  obtain ⟨c, ns, l, h1, h2, h3, h4, h5⟩ := T
  obtain ⟨kvs, e1, e2⟩ := o.cell _ u1
  rw [h1] at e1
  have e3 : tapeD c p l = kvs := HO.dK.inj (Option.some.inj e1)
  rw [← e3, tape_cells, tape_cells] at e2
  have e4 : c = c0 := V.ref.inj (Option.some.inj e2)
  subst e4
  exact ⟨c, ns, l, by rw [upd_ne (ne_of_none u1 hD)]; exact h1, by rw [upd_ne (ne_of_none u2 hD)]; exact h2, h3, h4, h5⟩
theorem Tape.at {H : Hp} {d : Addr} {i : Int} (t : Tape H d i) : ∃ kvs, H d = some (.dK kvs) := let ⟨_, _, _, h, _⟩ := t; ⟨_, h⟩

/-! ### a def of the text, with all that a caller wants of it -/
structure Dn (P : Program) (w : World) (K : PySem.W.Frag) (mg : Str → Option Value) (base : Heap) (k : Nat) (x : Str) (ps : List Str) (sp : Sp) : Prop where
  ex : ∃ (f : Addr) (fd : FuncData), mg x = some (.ref f) ∧ PySem.W.keepIn K (.ref f) = true ∧ Binds K fd ps [] ∧ FnOk P w K mg base CX0 k f fd ps sp
theorem pe_dn {X : Cx} {k : Nat} {x : Str} {ps : List Str} {sp : Sp} {e : Expr} {es : List Expr} {t : TA} {p pos : Pos} (D : Dn X.prog X.w X.K X.mg X.base k x ps sp) (hr : Room k X.A) (hg : Gl X x) (ha : PA X (e :: es) t) (hdb : (x == ("__debug__" : Str)) = false := by decide)
    (he : starEach (e :: es) X.env = (false, eval e X.env) :: starEach es X.env := by rfl) (hpl : (backTo pos (starEach es X.env)).any (·.1) = false := by rfl) : PE X (.Call (.Name x p) (e :: es) [] pos) (tCall sp [] E0 t) := by
  obtain ⟨f, fd, hm, kp, hb, F⟩ := D.ex
  exact pe_call F hr hg hm kp hb .nil pass0 ha hdb he hpl
theorem pe_dn0 {X : Cx} {k : Nat} {x : Str} {ps : List Str} {sp : Sp} {p pos : Pos} (D : Dn X.prog X.w X.K X.mg X.base k x ps sp) (hr : Room k X.A) (hg : Gl X x) (hdb : (x == ("__debug__" : Str)) = false := by decide) : PE X (.Call (.Name x p) [] [] pos) (tCall sp [] E0 tNil) := by
  obtain ⟨f, fd, hm, kp, hb, F⟩ := D.ex
  exact pe_call0 F hr hg hm kp hb .nil pass0 hdb
/-- the built-ins that the module leaves as they are -/
structure Blt (mg : Str → Option Value) : Prop where
  len : mg "len" = none
  int : mg "int" = none
  str : mg "str" = none
  bool : mg "bool" = none
  isi : mg "isinstance" = none
  set : mg "set" = none
  sum : mg "sum" = none
  min : mg "min" = none
  max : mg "max" = none
  range : mg "range" = none
  repr : mg "repr" = none
  sorted : mg "sorted" = none

section
variable {P : Program} {w : World} {K : PySem.W.Frag} {mg : Str → Option Value} {base : Heap}
theorem boot_int : bootBuiltins ("int" : Str) = some (.type "int") := by decide +kernel
/-! ### _law_draw -/
def spDraw : Sp := fun vs H Q _ => ∃ (d : Addr) (m p : Int), vs = [.ref d, .int m] ∧ 0 < m ∧ m < 1073741824 ∧ Tape H d p ∧ p < 1000000000 ∧
  ∀ (n p' : Int) (H' : Hp), 0 ≤ n → n < m → Tape H' d p' → p' ≤ p + 1 → Off H H' d → Q (.int n) H'
abbrev nD : List Str := ["_law_tape", "_law_many", "_law_place", "_law_size", "_law_cell", "_law_found"]
theorem scD : FnScope nD ["_law_tape", "_law_many"] (defScope sDraw) := ⟨rfl, rfl, rfl, by decide +kernel, rfl, by decide +kernel, by decide +kernel⟩
theorem dg_left {H : Hp} {d c : Addr} {p l : Int} (h : H d = some (.dK (tapeD c p l))) : DGet H d (.str "left") (some (.int l)) := .inl ⟨_, kLeft, .inl h, rfl, (tape_left c p l).symm⟩
theorem dg_place {H : Hp} {d c : Addr} {p l : Int} (h : H d = some (.dK (tapeD c p l))) : DGet H d (.str "place") (some (.int p)) := .inl ⟨_, kPlace, .inl h, rfl, (tape_place c p l).symm⟩
theorem dg_cells {H : Hp} {d c : Addr} {p l : Int} (h : H d = some (.dK (tapeD c p l))) : DGet H d (.str "cells") (some (.ref c)) := .inl ⟨_, kCells, .inl h, rfl, (tape_cells c p l).symm⟩
theorem dp_left {H : Hp} {d c : Addr} {p l q : Int} (h : H d = some (.dK (tapeD c p l))) : DPut H d (.str "left") (.int q) (L2.upd H d (.dK (tapeD c p q))) :=
  .inl ⟨_, kLeft, h, rfl, small1000 (show 3 ≤ 1000 by decide), by rw [tape_put_left]⟩
theorem dp_place {H : Hp} {d c : Addr} {p l q : Int} (h : H d = some (.dK (tapeD c p l))) : DPut H d (.str "place") (.int q) (L2.upd H d (.dK (tapeD c q l))) :=
  .inl ⟨_, kPlace, h, rfl, small1000 (show 3 ≤ 1000 by decide), by rw [tape_put_place]⟩
theorem Off.put {H H1 : Hp} {d c : Addr} {p l : Int} (a : Off H H1 d) (h : H1 d = some (.dK (tapeD c p l))) (p' l' : Int) : Off H (L2.upd H1 d (.dK (tapeD c p' l'))) d := a.trans ⟨fun b u e n => by rw [upd_ne n]; exact e, fun kvs e => by
  rw [h] at e
  have e3 : tapeD c p l = kvs := HO.dK.inj (Option.some.inj e)
  exact ⟨_, upd_same, by rw [← e3, tape_cells, tape_cells]⟩⟩
theorem two_line : (2 : Nat) ≤ sizeLine := by decide
theorem ok_draw {f : Addr} {fd : FuncData} (F : Fun K "_law_draw" "_law_draw" sDraw f fd) (B : Blt mg) : FnOk P w K mg base CX0 1 f fd ["_law_tape", "_law_many"] spDraw := by
  refine F.ok scD (fun vs H Q E h => ?_) (fun cdv A outer s H vs Q E hr h => ?_)
  · obtain ⟨d, m, p, rfl, _⟩ := h
    rfl
  · obtain ⟨d, m, p, rfl, m0, m1, T, p1, k⟩ := h
    have hu := hu_of hr
    obtain ⟨c, ns, l, hd, hc, hne, l0, p0⟩ := T
    have hcd : c ≠ d := (ne_of hd hc (by intro z; cases z)).symm
    obtain ⟨tB, hB, qB⟩ : ∃ tB, PSs (cxOf CX0 P w K mg base nD "_law_draw" (defScope sDraw) f cdv A outer s H E).nox ((defBody sDraw).drop 1) tB ∧ ∀ (v2 v3 v4 : Option V) (p' l' : Int) (H1 : Hp),
        H1 d = some (.dK (tapeD c p' l')) → 0 ≤ l' → 0 ≤ p' → p' ≤ p + 1 → Off H H1 d → tB { nx := fun _ H' => Q .non H', rt := Q } [some (.ref d), some (.int m), v2, v3, v4, none] H1 := by
      refine ⟨_, pss_cons (ps_asg (pe_tup (pa_cons (pe_op op_mod (pe_callTy call_int1 (by rfl) B.int boot_int (pa_cons (pe_dget hu (pv 0) pe_str (fun _ _ => rfl)) pa_nil)) (pv 1)) (pa_cons (pe_op op_fdiv (pe_dget hu (pv 0) pe_str (fun _ _ => rfl)) (pv 1)) pa_nil)))
            (pg_tup rfl (pgs_cons (pg_name (i := 5) scD.nd rfl (.inl rfl)) (pgs_cons (pg_sub (pv 0) pe_str (set_dict hu)) pgs_nil))))
        (pss_one (ps_ret (pv 5))), fun v2 v3 v4 p' l' H1 h1 l1 q0 q1 of => ?_⟩
      refine ⟨_, rfl, d, _, rfl, dg_left h1, .inl ⟨_, rfl, _, rfl, _, _, rfl, rfl, m0, _, rfl, d, _, rfl, dg_left h1, _, rfl, _, _, rfl, rfl, ⟨m0, m1⟩, two_line, fun t ht => ?_⟩⟩
      have htd : d ≠ t := ne_of_none h1 ht
      refine ⟨t, _, rfl, SqT.of upd_same, rfl, _, _, rfl, _, _, rfl, _, rfl, d, _, rfl, dp_left (by rw [upd_ne htd]; exact h1), rfl, _, rfl, ?_⟩
      have o2 : Off H (L2.upd (L2.upd H1 t (.tup [.int (l' % m), .int (l' / m)])) d (.dK (tapeD c p' (l' / m)))) d := (of.new ht _).put (by rw [upd_ne htd]; exact h1) _ _
      exact k _ p' _ (Int.emod_nonneg _ (by omega)) (Int.emod_lt_of_pos _ m0) ⟨c, ns, l' / m, upd_same, o2 _ _ hc hcd, hne, Int.ediv_nonneg l1 (by omega), q0⟩ q1 o2
    refine ⟨_, pss_cons (ps_if (pt_cmpR op_lt (pe_dget hu (pv 0) pe_str (fun _ _ => rfl)) (pv 1) (nomark _))
        (pss_cons (ps_par (i := 2) (j := 3) rfl scD.nd rfl rfl (by decide) rfl rfl (pa_cons (pe_dget hu (pv 0) pe_str (fun _ _ => rfl)) (pa_cons (pe_callB call_len_seq (by rfl) B.len PySem.boot_len (pa_cons (pe_dget hu (pv 0) pe_str (fun _ _ => rfl)) pa_nil)) pa_nil)) (by rfl))
        (pss_cons (ps_asg (pe_tup (pa_cons (pe_ix ix_list (pe_dget hu (pv 0) pe_str (fun _ _ => rfl)) (pe_op op_mod (pe_callTy call_int1 (by rfl) B.int boot_int (pa_cons (pv 2) pa_nil)) (pv 3)) (fun _ _ => rfl)) (pa_cons (pe_op op_add (pv 2) pe_int) pa_nil)))
            (pg_tup rfl (pgs_cons (pg_name (i := 4) scD.nd rfl (.inl rfl)) (pgs_cons (pg_sub (pv 0) pe_str (set_dict hu)) pgs_nil))))
        (pss_cons (ps_dput hu (pv 0) pe_str (pe_op op_mod (pe_callTy call_int1 (by rfl) B.int boot_int (pa_cons (pe_op op_pow (pe_op op_add (pe_op op_add (pe_op op_mod (pe_callTy call_int1 (by rfl) B.int boot_int (pa_cons (pv 4) pa_nil)) pe_int) (pe_op op_mul pe_int (pv 2))) pe_int) pe_int) pa_nil)) (pe_op op_add (pe_op op_pow pe_int pe_int) pe_int)) rfl)
        (pss_one (ps_if (pw_and (pt_cmpR op_ge (pv 4) (pe_op op_pow pe_int pe_int) (nomark _)) (pw_and1 (pt_cmpR op_lt (pv 2) (pv 3) (nomark _)))).pt
          (pss_one (ps_dput hu (pv 0) pe_str (pe_op op_sub (pv 4) (pe_op op_pow pe_int pe_int)) rfl)) pss_nil))))) pss_nil) hB, ?_⟩
    refine ⟨_, rfl, d, _, rfl, dg_left hd, _, rfl, _, _, rfl, rfl, _, rfl, ite2 (fun _ => ?_) (fun _ => qB _ _ _ p l H hd l0 p0 (by omega) (.refl _ _))⟩
    have hlen : 0 < ns.length := List.length_pos_iff.mpr hne
    have hml : (ns.map V.int).length = ns.length := List.length_map _
    obtain ⟨z, hz⟩ : ∃ z : Int, atI (ns.map V.int) (p % (ns.map V.int).length) = some (.int z) := by
      have h1 : 0 ≤ p % (ns.map V.int).length := Int.emod_nonneg _ (by omega)
      have h2 : p % (ns.map V.int).length < (ns.map V.int).length := Int.emod_lt_of_pos _ (by omega)
      have h3 : (p % (ns.map V.int).length).toNat < ns.length := by omega
      exact ⟨ns[(p % (ns.map V.int).length).toNat], at_of (j := (p % (ns.map V.int).length).toNat) (by omega) (by rw [List.getElem?_map, List.getElem?_eq_getElem h3]; rfl)⟩
    -- place, size; cell, tape['place']
    refine ⟨_, rfl, d, _, rfl, dg_place hd, _, rfl, d, _, rfl, dg_cells hd, c, _, rfl, .inl (SqL.of hc), _, _, rfl, ?_⟩
    refine ⟨_, rfl, d, _, rfl, dg_cells hd, _, rfl, .inl ⟨_, rfl, _, rfl, _, _, rfl, rfl, (by omega), c, _, _, _, rfl, rfl, SqL.of hc, hz, _, rfl, _, _, rfl, rfl, two_line, fun t ht => ?_⟩⟩
    have htd : d ≠ t := ne_of_none hd ht
    refine ⟨t, _, rfl, SqT.of upd_same, rfl, _, _, rfl, _, _, rfl, _, rfl, d, _, rfl, dp_place (by rw [upd_ne htd]; exact hd), rfl, ?_⟩
    -- tape['left']
    have e1 := Int.emod_nonneg z (show (2147483629 : Int) ≠ 0 by decide)
    have e2 := Int.emod_lt_of_pos z (show (0 : Int) < 2147483629 by decide)
    refine ⟨_, rfl, .inl ⟨_, rfl, _, _, rfl, rfl, (by show (0 : Int) < 2147483629; decide), _, rfl, _, _, rfl, rfl, .inl ⟨by decide, by decide⟩, _, _, rfl, rfl, _, _, rfl, rfl, _, _, rfl, rfl, ⟨by decide, by decide, by omega⟩, .inl ⟨_, rfl, _, _, rfl, rfl, ⟨by decide, by decide, by decide⟩, _, _, rfl, rfl, _, _, rfl, rfl, (by show (0 : Int) < 10 ^ (50 : Int).toNat + 57; decide), _, rfl, d, _, rfl, dp_left upd_same, ?_⟩⟩⟩
    rw [upd_upd]
    have l2 : ∀ x : Int, 0 ≤ x % (10 ^ (50 : Int).toNat + 57) := fun x => Int.emod_nonneg _ (by decide)
    have of : ∀ q, Off H (L2.upd (L2.upd H t (.tup [.int z, .int (p + 1)])) d (.dK (tapeD c (p + 1) q))) d := fun q => ((Off.refl H d).new ht _).put (by rw [upd_ne htd]; exact hd) _ _
    refine ⟨_, rfl, _, _, rfl, rfl, ⟨by decide, by decide, by decide⟩, _, _, rfl, rfl, _, rfl, ite2 (fun hz18 => ?_) (fun _ => ?_)⟩
    · refine ⟨_, rfl, _, rfl, _, _, rfl, rfl, _, rfl, ite2 (fun _ => ?_) (fun _ => ?_)⟩
      · have hz18 := of_decide_eq_true hz18
        refine ⟨_, rfl, _, _, rfl, rfl, ⟨by decide, by decide, by decide⟩, _, _, rfl, rfl, _, rfl, d, _, rfl, dp_left upd_same, ?_⟩
        rw [upd_upd]
        exact qB _ _ _ (p + 1) _ _ upd_same (by omega) (by omega) (by omega) (of _)
      · exact qB _ _ _ (p + 1) _ _ upd_same (l2 _) (by omega) (by omega) (of _)
    · exact qB _ _ _ (p + 1) _ _ upd_same (l2 _) (by omega) (by omega) (of _)
end
end Ask
namespace Ask
open PySem L2
section
variable {P : Program} {w : World} {K : PySem.W.Frag} {mg : Str → Option Value} {base : Heap}
/-! ### _law_begin -/
def spBegin (K : PySem.W.Frag) : Sp := fun vs H Q _ => ∃ (a : Addr) (ns : List Int), vs = [.ref a] ∧ SqL K H a (ns.map V.int) ∧ ∀ (d : Addr) (H' : Hp), H d = none → Tape H' d 0 → Same H H' → Q (.ref d) H'
abbrev nBg : List Str := ["_law_script"]
theorem scBg : FnScope nBg ["_law_script"] (defScope sBegin) := ⟨rfl, rfl, rfl, by decide +kernel, rfl, by decide +kernel, by decide +kernel⟩
theorem merge_tape (c : Addr) (p l : Int) : mergeK [] (tapeD c p l) = tapeD c p l := by
  have e1 : putK ([] : List (Key × V)) kCells (.ref c) = [(kCells, .ref c)] := putK_new _ rfl
  have e2 : putK [(kCells, V.ref c)] kPlace (.int p) = [(kCells, .ref c), (kPlace, .int p)] := putK_new _ (by rw [valV_neg ne_cp, valV_nil])
  have e3 : putK [(kCells, V.ref c), (kPlace, V.int p)] kLeft (.int l) = tapeD c p l := putK_new _ (by rw [valV_neg ne_cl, valV_neg ne_pl, valV_nil])
  show putK (putK (putK ([] : List (Key × V)) kCells (.ref c)) kPlace (.int p)) kLeft (.int l) = _
  rw [e1, e2, e3]
theorem cut_ints (ns : List Int) (lo hi : Option Int) : ∃ ms : List Int, cutV (ns.map V.int) lo hi = ms.map V.int := by
  unfold cutV
  exact ⟨(ns.drop _).take _, by rw [List.map_take, List.map_drop]⟩
theorem ok_begin {f : Addr} {fd : FuncData} (F : Fun K "_law_begin" "_law_begin" sBegin f fd) : FnOk P w K mg base CX0 1 f fd ["_law_script"] (spBegin K) := by
  refine F.ok scBg (fun vs H Q E h => ?_) (fun cdv A outer s H vs Q E hr h => ?_)
  · obtain ⟨a, ns, rfl, _⟩ := h
    rfl
  · obtain ⟨a, ns, rfl, hs, k⟩ := h
    refine ⟨_, pss_one (ps_ret (pe_disp (pps_cons pe_str (pe_orT (pe_slice sl_list (pv 0) po_none (po_some pe_int)) (pe_one (pe_lst (pa_cons pe_int pa_nil)))) (pps_cons pe_str pe_int (pps_cons pe_str pe_int pps_nil))) rfl rfl (by intro z; cases z) (by decide))), ?_⟩
    intro d hd
    have s1 : Same H (L2.upd H d (.dK [])) := fun b o e => by rw [upd_ne (ne_of_none e hd)]; exact e
    refine ⟨_, rfl, _, rfl, a, _, rfl, s1.seq hs, fun c hc => ?_⟩
    obtain ⟨ms, em⟩ := cut_ints ns none (some 63)
    have ncd : d ≠ c := ne_of_none upd_same hc
    have s2 : ∀ o, Same H (L2.upd (L2.upd H d (.dK [])) c o) := fun o b u e => by rw [upd_ne (ne_of_none (s1 _ _ e) hc)]; exact s1 _ _ e
    have fin : ∀ (c : Addr) (ms : List Int) (H1 : Hp), ms ≠ [] → Same H H1 → H1 d = some (.dK []) → H1 c = some (.lst (ms.map V.int)) → c ≠ d → Q (.ref d) (L2.upd H1 d (.dK (mergeK [] (tapeD c 0 0)))) := fun c ms H1 hm hs1 h1 h2 hn => by
      rw [merge_tape]
      refine k d _ hd ⟨c, ms, 0, upd_same, by rw [upd_ne hn]; exact h2, hm, by omega, by omega⟩ fun b u e => ?_
      rw [upd_ne (ne_of_none e hd)]
      exact hs1 _ _ e
    rw [em]
    refine ⟨!(ms.map V.int).isEmpty, .inl ⟨_, SqL.of upd_same, rfl⟩, ?_⟩
    cases ms with
    | nil =>
      refine iteF ⟨by show 1 ≤ sizeLine; decide, fun c2 hc2 => ?_⟩
      have n2 : d ≠ c2 := ne_of_none (by rw [upd_ne ncd]; exact upd_same) hc2
      refine ⟨by rw [upd_ne n2, upd_ne ncd]; exact upd_same, tapeD c2 0 0, rfl, by show 3 ≤ 15; decide, ?_⟩
      exact fin c2 [0] _ (by intro z; cases z) (fun b u e => by rw [upd_ne (ne_of_none (s2 _ _ _ e) hc2)]; exact s2 _ _ _ e) (by rw [upd_ne n2, upd_ne ncd]; exact upd_same) upd_same n2.symm
    | cons m ms =>
      refine iteT ?_
      refine ⟨by rw [upd_ne ncd]; exact upd_same, tapeD c 0 0, rfl, by show 3 ≤ 15; decide, ?_⟩
      exact fin c (m :: ms) _ (by intro z; cases z) (s2 _) (by rw [upd_ne ncd]; exact upd_same) upd_same ncd.symm
/-! ### _law_pick -/
/-- v is a list, a tuple or a text with the items xs -/
def Seq3 (K : PySem.W.Frag) (H : Hp) (v : V) (xs : List V) : Prop :=
  (∃ a, v = .ref a ∧ SqL K H a xs) ∨ (∃ a, v = .ref a ∧ SqT K H a xs) ∨ ∃ z : Str, v = .str z ∧ z.length ≤ sizeLine ∧ xs = z.cps.toList.map fun c => V.str ⟨#[c]⟩
theorem Off.seqL {H H' : Hp} {d a : Addr} {kvs : List (Key × V)} {xs : List V} (o : Off H H' d) (hd : H d = some (.dK kvs)) (h : SqL K H a xs) : SqL K H' a xs := by
  rcases h with (h | ⟨u, h⟩) | h
  · exact .inl (.inl (o _ _ h (ne_of h hd (by intro z; cases z))))
  · exact .inl (.inr ⟨u, o _ _ h (ne_of h hd (by intro z; cases z))⟩)
  · exact .inr h
theorem Off.seqT {H H' : Hp} {d a : Addr} {kvs : List (Key × V)} {xs : List V} (o : Off H H' d) (hd : H d = some (.dK kvs)) (h : SqT K H a xs) : SqT K H' a xs := by
  rcases h with (h | ⟨u, h⟩) | h
  · exact .inl (.inl (o _ _ h (ne_of h hd (by intro z; cases z))))
  · exact .inl (.inr ⟨u, o _ _ h (ne_of h hd (by intro z; cases z))⟩)
  · exact .inr h
theorem Seq3.off {H H' : Hp} {d : Addr} {kvs : List (Key × V)} {v : V} {xs : List V} (h : Seq3 K H v xs) (o : Off H H' d) (hd : H d = some (.dK kvs)) : Seq3 K H' v xs := by
  rcases h with ⟨a, e, h⟩ | ⟨a, e, h⟩ | h
  · exact .inl ⟨a, e, o.seqL hd h⟩
  · exact .inr (.inl ⟨a, e, o.seqT hd h⟩)
  · exact .inr (.inr h)
theorem Seq3.len {H : Hp} {v : V} {xs : List V} (h : Seq3 K H v xs) : LenV K v H xs.length := by
  rcases h with ⟨a, rfl, h⟩ | ⟨a, rfl, h⟩ | ⟨z, rfl, hz, rfl⟩
  · exact .inl ⟨xs, h, rfl⟩
  · exact .inr ⟨xs, h, rfl⟩
  · exact ⟨hz, by rw [List.length_map]; rfl⟩
theorem atI_map {α β : Type} (g : α → β) (l : List α) (i : Int) : atI (l.map g) i = (atI l i).map g := by
  unfold atI
  rw [List.length_map]
  cases ixN l.length i with
  | none => rfl
  | some j => simp
theorem Seq3.ix {H : Hp} {v y : V} {xs : List V} {i : Int} {Q : VK} (h : Seq3 K H v xs) (e : atI xs i = some y) (q : Q y H) : rIx K v (.int i) H Q := by
  rcases h with ⟨a, rfl, h⟩ | ⟨a, rfl, h⟩ | ⟨z, rfl, hz, rfl⟩
  · exact .inl ⟨a, xs, i, y, rfl, rfl, h, e, q⟩
  · exact .inr (.inl ⟨a, xs, i, y, rfl, rfl, h, e, q⟩)
  · rw [atI_map] at e
    obtain ⟨c, e1, rfl⟩ := Option.map_eq_some_iff.mp e
    exact .inr (.inr ⟨z, i, c, rfl, rfl, hz, e1, q⟩)
def spPick (K : PySem.W.Frag) : Sp := fun vs H Q _ => ∃ (d : Addr) (v : V) (xs : List V) (p : Int), vs = [.ref d, v] ∧ Tape H d p ∧ p < 1000000000 ∧ Seq3 K H v xs ∧ xs ≠ [] ∧ xs.length < 1073741824 ∧
  ∀ (x : V) (p' : Int) (H' : Hp), x ∈ xs → Tape H' d p' → p' ≤ p + 1 → Off H H' d → Q x H'
abbrev nPk : List Str := ["_law_tape", "_law_items"]
theorem scPk : FnScope nPk ["_law_tape", "_law_items"] (defScope sPick) := ⟨rfl, rfl, rfl, by decide +kernel, rfl, by decide +kernel, by decide +kernel⟩
theorem ok_pick {f : Addr} {fd : FuncData} (F : Fun K "_law_pick" "_law_pick" sPick f fd) (B : Blt mg) (DD : Dn P w K mg base 1 "_law_draw" ["_law_tape", "_law_many"] spDraw) : FnOk P w K mg base CX0 2 f fd ["_law_tape", "_law_items"] (spPick K) := by
  refine F.ok scPk (fun vs H Q E h => ?_) (fun cdv A outer s H vs Q E hr h => ?_)
  · obtain ⟨d, v, xs, p, rfl, _⟩ := h
    rfl
  · obtain ⟨d, v, xs, p, rfl, T, p1, S, hne, hl, k⟩ := h
    have hlen : 0 < xs.length := List.length_pos_iff.mpr hne
    refine ⟨_, pss_one (ps_ret (pe_ix ix_seq (pv 1) (pe_dn DD hr (by rfl) (pa_cons (pv 0) (pa_cons (pe_callB call_len (by rfl) B.len PySem.boot_len (pa_cons (pv 1) pa_nil)) pa_nil))) (fun _ _ => rfl))), ?_⟩
    refine ⟨_, rfl, _, rfl, _, rfl, _, _, rfl, S.len, d, _, p, rfl, by omega, by omega, T, p1, fun n p' H' n0 n1 T' hp o => ?_⟩
    obtain ⟨kvs, hd⟩ := T.at
    have h3 : n.toNat < xs.length := by omega
    exact (S.off o hd).ix (at_of (j := n.toNat) (by omega) (List.getElem?_eq_getElem h3)) (k _ p' H' (List.getElem_mem h3) T' hp o)
end
end Ask
namespace Ask
open PySem L2 PySem.W PyProof.Rows
/-! ### sorted with a key that a def makes -/
theorem room_in2 {k : Nat} {A : Around} (h : Room (k + 1) A) : Room k A.in1.in1 := ⟨h.hd, by have := h.dp; show A.depth + 3 * k + 5 < _; omega, by have := h.un; show A.units + 1 + 1 + 16 * k + 200 < _; omega⟩
theorem each_snoc' {α β : Type} {R : α → β → Prop} {as : List α} {bs : List β} {x : α} {y : β} (h : EachIs R as bs) (e : R x y) : EachIs R (as ++ [x]) (bs ++ [y]) := each_snoc e h
theorem each_of_vals : ∀ {xs : List V} {us : List Value}, Vals xs us → EachIs (fun u v => RelV v u) us xs
  | _, _, .nil => .nil
  | _, _, .cons a r => .cons a (each_of_vals r)
theorem vals_of_each : ∀ {xs : List V} {us : List Value}, EachIs (fun u v => RelV v u) us xs → Vals xs us
  | _, _, .nil => .nil
  | _, _, .cons a r => .cons a (vals_of_each r)
theorem seqT_same {K : PySem.W.Frag} {H H1 : Hp} {a : Addr} {xs : List V} (s : Same H H1) (h : SqT K H a xs) : SqT K H1 a xs := by
  rcases h with (h | ⟨u, h⟩) | h
  · exact .inl (.inl (s _ _ h))
  · exact .inl (.inr ⟨u, s _ _ h⟩)
  · exact .inr h
mutual
theorem dp_same {K : PySem.W.Frag} {H H1 : Hp} (s : Same H H1) : ∀ {v : V} {d : PyData}, Dp K H v d → Dp K H1 v d
  | _, _, .non => .non
  | _, _, .bl b => .bl b
  | _, _, .int i => .int i
  | _, _, .str x => .str x
  | _, _, .lst h r => .lst (Same.seq s h) (dpAll_same s r)
  | _, _, .tup h r => .tup (seqT_same s h) (dpAll_same s r)
theorem dpAll_same {K : PySem.W.Frag} {H H1 : Hp} (s : Same H H1) : ∀ {vs : List V} {ds : List PyData}, DpAll K H vs ds → DpAll K H1 vs ds
  | _, _, .nil => .nil
  | _, _, .cons a r => .cons (dp_same s a) (dpAll_same s r)
end
/-- the keys that are made so far -/
inductive Keys (K : PySem.W.Frag) (H : Hp) : List V → List PyData → Prop
  | nil : Keys K H [] []
  | snoc {vs ds v d} : Keys K H vs ds → Dp K H v d → Keys K H (vs ++ [v]) (ds ++ [d])
theorem Keys.same {K : PySem.W.Frag} {H H1 : Hp} (s : Same H H1) {vs : List V} {ds : List PyData} (h : Keys K H vs ds) : Keys K H1 vs ds := by
  induction h with
  | nil => exact .nil
  | snoc _ d ih => exact .snoc ih (dp_same s d)
section
variable {X : Cx} {pins : List (Addr × Obj)} {σ : L2.St} {H : Hp} {s : Shared} {k : Nat} {f : Addr} {sp : Sp}
theorem each_keysV {K : PySem.W.Frag} (hK : X.K = K) (J : L2.Inv X pins σ H s) : ∀ {vs : List V} {ds : List PyData}, Keys K H vs ds → ∀ {us : List Value}, Vals vs us → EachIs (fun u d => ∃ as, Reads s.heap u d as) us ds := by
  subst hK
  intro vs ds h
  induction h with
  | nil =>
    intro us r
    cases r
    exact .nil
  | @snoc vs ds v d _ dv ih =>
    intro us r
    have rt := r.take vs.length
    have rd := r.drop vs.length
    rw [List.take_left] at rt
    rw [List.drop_left] at rd
    obtain ⟨u, e, ru⟩ := rd.one
    have e2 : us = us.take vs.length ++ [u] := by rw [← e, List.take_append_drop]
    rw [e2]
    exact each_snoc' (ih rt) (Dp.reads J d v u dv ru)
/-! ### keys that are all the empty tuple -/
def EmptyT (h : Heap) (v : Value) : Prop := ∃ (a : Addr) (o : Obj) (n : Nat), v = .ref a ∧ h.get? a = some o ∧ o.cls = .type "tuple" ∧ o.data = .seq #[] n
theorem reads_empty {h : Heap} {v : Value} {as : List Addr} (r : Reads h v (.tuple []) as) : EmptyT h v := by
  obtain ⟨a, o, vs, n, rfl, g, hc, hd, ra⟩ := reads_tuple_inv r
  have e : vs = #[] := by
    generalize hl : vs.toList = l at ra
    cases ra
    exact Array.toList_eq_nil_iff.mp hl
  subst e
  exact ⟨a, o, n, rfl, g, hc, hd⟩
theorem my_mapM {α β : Type} {M : Model} {A : Around} {E : Value → Shared → Prop} {s : Shared} {f : α → Sem β} {c : β} : ∀ (vs : List α) {Q : List β → Shared → Prop}, (∀ v ∈ vs, ∀ Q' : β → Shared → Prop, Q' c s → wpAny M A (f v) Q' E s) → Q (vs.map fun _ => c) s → wpAny M A (List.mapM f vs) Q E s
  | [], Q, _, q => by
    rw [List.mapM_nil]
    exact wpAny_pure q
  | v :: vs, Q, h, q => by
    rw [List.mapM_cons]
    refine wpAny_bind (h v (.head _) _ ?_)
    refine wpAny_bind (my_mapM vs (fun v' hv' => h v' (.tail _ hv')) ?_)
    exact wpAny_pure q
theorem typeOf_empty {M : Model} {A : Around} {E : Value → Shared → Prop} {s : Shared} {v : Value} {Q : Value → Shared → Prop} (e : EmptyT s.heap v) (q : Q (.type "tuple") s) : wpAny M A (typeOf v) Q E s := by
  obtain ⟨a, o, n, rfl, g, hc, hd⟩ := e
  exact (looks_reads (d := .tuple []) (as := []) (reads_tuple_at g hc hd .nil)).here q
theorem kind_empty {M : Model} {A : Around} {E : Value → Shared → Prop} {s : Shared} {vs : List Value} {Q : SortKind → Shared → Prop} (h2 : 2 ≤ vs.length) (hv : ∀ v ∈ vs, EmptyT s.heap v) (q : Q oneType' s) : wpAny M A (keyKind' vs.toArray) Q E s := by
  obtain ⟨v0, vr, rfl⟩ : ∃ v0 vr, vs = v0 :: vr := by
    cases vs with
    | nil => exact absurd h2 (by decide)
    | cons a r => exact ⟨a, r, rfl⟩
  rw [keyKind'_eq, List.mapM_toArray, map_eq_pure_bind]
  refine wpAny_bind (wpAny_bind (my_mapM (v0 :: vr) (c := none) (fun v hv' Q' q' => ?_) (wpAny_pure ?_)))
  · rw [kas_first_eq]
    refine wpAny_bind (typeOf_empty (hv v hv') ?_)
    rw [if_neg (by decide)]
    obtain ⟨a, o, n, rfl, g, hc, hd⟩ := hv v hv'
    refine wpAny_bind (listItems_at g hd ?_)
    exact wpAny_pure q'
  have e1 : (((v0 :: vr).map fun _ => (none : Option Value)).toArray.all fun x => x.isSome) = false := by simp
  rw [if_neg (by rw [e1]; decide)]
  have e2 : ((((v0 :: vr).map fun _ => (none : Option Value)).toArray[0]?).bind id).isSome = false := by simp
  rw [if_neg (by rw [e2]; decide)]
  rw [oneTypeOnly'_eq, List.mapM_toArray, map_eq_pure_bind]
  refine wpAny_bind (wpAny_bind (wpAny_bind (my_mapM (v0 :: vr) (c := .type "tuple") (fun v hv' Q' q' => typeOf_empty (hv v hv') q') (wpAny_pure ?_))))
  have h0 : ((v0 :: vr).map fun _ => Value.type "tuple").toArray[0]? = some (.type "tuple") := by simp
  rw [h0]
  have h1 : ((v0 :: vr).map fun _ => Value.type "tuple").toArray.all (fun x => x == Value.type "tuple") = true := by
    rw [List.all_toArray, List.all_map]
    exact List.all_eq_true.mpr fun _ _ => (show (Value.type "tuple" == Value.type "tuple") = true by decide)
  refine wpAny_pure ?_
  rw [h1]
  exact wpAny_pure q
theorem lt_empty {prog : Program} {w : World} {A : Around} {E : Value → Shared → Prop} {s : Shared} {x y : Value} {Q : Bool → Shared → Prop} (hu : A.units + 2 < cLine) (hx : EmptyT s.heap x) (hy : EmptyT s.heap y) (q : Q false s) : wpAny (model prog w) A (keyLt' oneType' x y) Q E s := by
  obtain ⟨a, o, n, rfl, g, hc, hd⟩ := hx
  obtain ⟨b, o', n', rfl, g', hc', hd'⟩ := hy
  rw [keyLt'_oneType, oneLt'_eq]
  show wpAny _ _ (cRoomFor "comparison" [.ref a, .ref b] >>= _) _ _ _
  refine wpAny_bind (wpAny_cRoomFor (by omega) ?_)
  refine wpAny_bind (wpAny_callSpecialIfBound?_slot (T := "tuple") ⟨o, g, hc⟩ PySem.F.slot_tuple_lt ?_)
  obtain ⟨cls, dict, data, slots⟩ := o
  obtain ⟨cls', dict', data', slots'⟩ := o'
  cases hc
  cases hd
  cases hc'
  cases hd'
  refine call_meets PySem.F.slot_tuple_lt ⟨_, g, rfl⟩ PySem.F.entry_tuple_lt (PySem.F.args_tuple_lt_2 _ _) (SeqAt.tuple_ltAt a b #[] #[] n n' dict dict' slots slots' (fun _ => true) (fun _ => true)) ⟨g, g', fun j h => absurd h (Nat.not_lt_zero _), fun j h => absurd h (Nat.not_lt_zero _), ?_⟩
  show wpAny _ _ (truthOfDropped (.bool false)) _ _ _
  exact wpAny_pure q
theorem each_left {α β : Type} {R : α → β → Prop} {as : List α} {bs : List β} (h : EachIs R as bs) : ∀ a ∈ as, ∃ b, R a b := by
  induction h with
  | nil => exact fun _ h => nomatch h
  | cons h _ ih =>
    intro v hv
    cases hv with
    | head => exact ⟨_, h⟩
    | tail _ hv => exact ih v hv
theorem sorts_empty {prog : Program} {w : World} {A : Around} {s : Shared} {vs : List Value} {ds : List PyData} (er : EachIs (fun v d => ∃ as, Reads s.heap v d as) vs ds) (hal : AllAlike ds) (he : ∀ d ∈ ds, d = .tuple []) (hu : A.units + 2 < cLine) : SortsAt prog w A s (dataKind s.heap ds) vs := by
  have each : ∀ v ∈ vs, EmptyT s.heap v := by
    clear hal hu
    induction er with
    | nil => exact fun _ h => nomatch h
    | cons h _ ih =>
      intro v hv
      cases hv with
      | head =>
        obtain ⟨as, r⟩ := h
        rw [he _ (.head _)] at r
        exact reads_empty r
      | tail _ hv => exact ih (fun d hd => he d (.tail _ hd)) v hv
  have keys : ∀ v ∈ vs, ∃ a, (dataKind s.heap ds).keyOf v = some a := fun v hv => let ⟨_, h⟩ := each_left (each_keys hal er) v hv; ⟨_, h⟩
  refine ⟨keys, oneType', fun E x y a b Q hx hy q => ?_, fun h2 E Q q => kind_empty h2 each q⟩
  obtain ⟨d, as, hd, rd, ea⟩ := dataKind_inv hx
  obtain ⟨d', as', hd', rd', eb⟩ := dataKind_inv hy
  rw [he d hd] at rd ea
  rw [he d' hd'] at rd' eb
  subst ea eb
  refine lt_empty hu (reads_empty rd) (reads_empty rd') ?_
  have := (dataKind s.heap ds).irrefl (keyToks (.tuple []))
  rw [← this]
  exact q
/-- the def is called for a key -/
theorem run_key {Q : VK} {us : List Value} {vs : List V} (F : FnR X.prog X.w X.K X.mg X.base CX0 k f sp) (hr : Room k X.A.in1.in1) (I : L2.Inv X pins σ H s) (r : Vals vs us) (h : sp vs H Q E0) :
    codeAny (model X.prog X.w) X.A.in1.in1 (.call (.ref f) ⟨us, []⟩) (fun r s' => match r with | .ok (.ret u) => EP X pins σ Q u s' | _ => False) s := by
  have e := I.env0
  refine codeAny_mono (F X.A.in1.in1 X.stack s H us vs Q E0 hr ⟨e.frames, e.mod, e.bs, e.bsz, e.funs, e.frf, e.hok, e.bare⟩ r h) fun res s' q => ?_
  match res, q with
  | .ok (.ret u), q => exact I.after q
theorem pins_cons {p : Addr × Obj} (J : L2.Inv X pins σ H s) (h1 : s.heap.get? p.1 = some p.2) (h2 : FpOk X pins H p.1) (h3 : ∀ v : Option Value, p.2.data ≠ Data.cell v) : L2.Inv X (p :: pins) σ H s :=
  J.pins_of fun q hq => by
    cases hq with
    | head => exact ⟨h1, h2.1, h2.2.1, h2.2.2.1, h3⟩
    | tail _ hq => exact J.pin q (List.mem_append_right _ hq)
/-- what is behind the making of the places: keys, order, the list again -/
theorem sortK_rest {E' : Value → Shared → Prop} {Q : VK} {ys : List V} {its : List Value} {kf : V → PyData} {D kS : Addr} {e1 : Nat} (F : FnR X.prog X.w X.K X.mg X.base CX0 k f sp) (hr : Room k X.A.in1.in1) (I : L2.Inv X pins σ H s) (r : Vals ys its) (hz : ys.length ≤ sizeLine)
    (hal : AllAlike (ys.map kf)) (hso : Sortable (ys.map kf) ∨ ∀ d ∈ ys.map kf, d = .tuple []) (hde : ∀ y ∈ ys, (kf y).depth ≤ 60) (hsp : ∀ y ∈ ys, ∀ H1, Same H H1 → sp [y] H1 (fun v H2 => Same H1 H2 ∧ Dp X.K H2 v (kf y)) E0)
    (q : ∀ H1 p, Same H H1 → H1 p = none → Q (.ref p) (L2.upd H1 p (.lst (ys.mergeSort (dataLe false kf)))))
    (hD : FpOk X pins H D) (hS : FpOk X pins H kS) (hne : kS ≠ D) (gD : s.heap.get? D = some (seqObj "list" #[] e1)) (gS : s.heap.get? kS = some (seqObj "list" #[] 0)) :
    wpAny (model X.prog X.w) X.A.in1.in1 (ksk_rest D (.ref f) false its.toArray e1 (.ref kS)) (fun fin s' => fin = .done (.ret .none) ∧ EP X pins σ Q (.ref D) s') E' s := by
  unfold ksk_rest
  refine wpAny_bind (wpAny_rule ?_)
  refine wpAny_bind (wpAny_forIn_array' _ (fun rest _ s' => ∃ (H' : Hp) (kv : List V) (ks : List Value) (n : Nat) (yd yr : List V), ys = yd ++ yr ∧ Vals yr rest ∧ Keys X.K H' kv (yd.map kf) ∧ Vals kv ks ∧ kv.length = yd.length ∧ Same H H' ∧
    L2.Inv X ((D, seqObj "list" #[] e1) :: (kS, seqObj "list" ks.toArray n) :: pins) σ H' s') _ ?_ ?_ _ _ ⟨H, [], [], 0, [], ys, rfl, r, .nil, .nil, rfl, Same.refl H, ?_⟩)
  · rintro x rest _ s' ⟨H', kv, ks, n, yd, yr, rfl, rr, dk, vk, hlen, sm, J⟩
    match yr, rr with
    | y :: yr', .cons ry rr' =>
    have pS := J.pin (kS, seqObj "list" ks.toArray n) (List.mem_append_right _ (.tail _ (.head _)))
    refine wpAny_bind (wpAny_attempt (wpAny_call (codeAny_mono (run_key F hr J (.cons ry .nil) (hsp y (List.mem_append_right _ (.head _)) H' sm)) fun res s2 hq => ?_)))
    match res, hq with
    | .ok (.ret u), ⟨v, H2, J2, rv, sm2, dv⟩ =>
    have pS := J2.pin (kS, seqObj "list" ks.toArray n) (List.mem_append_right _ (.tail _ (.head _)))
    have pD := J2.pin (D, seqObj "list" #[] e1) (List.mem_append_right _ (.head _))
    have hks : ks.length = yd.length := by rw [← vk.length]; exact hlen
    have hsz : ks.toArray.size < sizeLine := by
      have h1 : ks.toArray.size = yd.length := hks
      have h2 : (yd ++ y :: yr').length = yd.length + (yr'.length + 1) := by rw [List.length_append, List.length_cons]
      omega
    refine wpAny_bind (listUpdate_at pS.1 rfl ?_ (by omega) (by rw [Array.size_push]; omega))
    refine wpAny_pure ?_
    have gS2 := get?_update_seq pS.1 (fun xs => xs.push u)
    refine ⟨H2, kv ++ [v], ks ++ [u], (if ((ks.toArray.push u).size == ks.toArray.size) = true then n else n + 1), yd ++ [y], yr', by simp, rr', ?_, vk.append (.cons rv .nil), by rw [List.length_append, List.length_append, hlen]; rfl, sm.trans sm2, ?_⟩
    · rw [List.map_append]
      exact .snoc (dk.same sm2) dv
    · have J3 : L2.Inv X pins σ H2 s2 := J2.pins_of fun q hq => J2.pin q (List.mem_append_right _ (.tail _ (.tail _ hq)))
      have J4 := J3.turnedL (ch := [kS]) (t' := s2.toks) (h' := s2.heap.update kS (Obj.mapSeq fun xs => xs.push u)) (fun b o nb hb => by
        rw [Heap.get?_update_other _ _ (fun e => nb (by rw [e]; exact .head _))]; exact hb) (fun b hb => by
        cases hb with
        | head => exact ⟨pS.2.1, hS.2⟩
        | tail _ h => cases h)
      refine pins_cons (pins_cons J4 ?_ ⟨pS.2.1, hS.2⟩ (fun v e => nomatch e)) ?_ ?_ (fun v e => nomatch e)
      · have e : ks.toArray.push u = (ks ++ [u]).toArray := by simp
        rw [← e]
        exact gS2
      · show (s2.heap.update kS _).get? D = _
        rw [Heap.get?_update_other _ _ hne]
        exact pD.1
      · exact ⟨pD.2.1, hD.2.1, hD.2.2.1, hD.2.2.2.1, hD.2.2.2.2.1, fun q hq => by
          rcases List.mem_append.mp hq with hq | hq
          · exact hD.2.2.2.2.2 q (List.mem_append_left _ hq)
          · cases hq with
            | head => exact hne
            | tail _ hq => exact hD.2.2.2.2.2 q (List.mem_append_right _ hq)⟩
  · rintro _ s' ⟨H', kv, ks, n, yd, yr, hys, rr, dk, vk, hlen, sm, J⟩
    cases rr
    rw [List.append_nil] at hys
    subst hys
    have pS := J.pin (kS, seqObj "list" ks.toArray n) (List.mem_append_right _ (.tail _ (.head _)))
    have pD := J.pin (D, seqObj "list" #[] e1) (List.mem_append_right _ (.head _))
    refine wpAny_bind (listItems_at pS.1 rfl ?_)
    have er := each_keysV rfl J dk vk
    have each := keyedOut_each (rev := false) (vs := its) kf ⟨s'.heap, ks, hal, rfl, er⟩ (each_of_vals r)
    refine keyH_end (h₁ := hidT s'.heap fun b => if b = kS then some (.tup []) else none) (κ := dataKind s'.heap (ys.map kf)) (fun b o _ e => (of_hidT e).1) ?_ pS.1 pD.1 hne ?_ ?_ ?_ ?_
    · cases e : (hidT s'.heap fun b => if b = kS then some (.tup []) else none).get? kS with
      | none => rfl
      | some o =>
        have := (of_hidT e).2
        rw [if_pos rfl] at this
        cases this
    · have hdep : ∀ d ∈ ys.map kf, X.A.in1.in1.units + d.depth < cLine := fun d hd => by
        obtain ⟨y, hy, rfl⟩ := List.mem_map.mp hd
        have := hde y hy
        have := hr.un
        omega
      rcases hso with hso | hso
      · exact SortsAt.data er hal hso hdep
      · exact sorts_empty er hal hso (by have := hr.un; omega)
    · show ks.length = its.length
      rw [← vk.length, ← r.length, hlen]
    · rw [← r.length]; exact hz
    · intro h' tk c kb gD'
      have keep : ∀ b o, b ≠ D → b ≠ kS → s'.heap.get? b = some o → h'.get? b = some o := fun b o n1 n2 e => kb b o n1 (hidT_get e (if_neg n2))
      have J0 : L2.Inv X pins σ H' s' := J.pins_of fun q hq => J.pin q (List.mem_append_right _ (.tail _ (.tail _ hq)))
      have nD : ∀ {b : Addr} {u : HO}, H' b = some u → b ≠ D := fun e n => by rw [n, pD.2.1] at e; cases e
      have nS : ∀ {b : Addr} {u : HO}, H' b = some u → b ≠ kS := fun e n => by rw [n, pS.2.1] at e; cases e
      have vs := vals_of_each each
      have ob : ObjOk X.prog X.w (L2.upd H' D (.lst (ys.mergeSort (dataLe false kf)))) h' D (.lst (ys.mergeSort (dataLe false kf))) := ⟨by rw [List.length_mergeSort]; exact hz, _, _, vs, gD'⟩
      have hok : HOk X.prog X.w (L2.upd H' D (.lst (ys.mergeSort (dataLe false kf)))) h' := by
        intro b u e
        by_cases n : b = D
        · subst n
          rw [upd_same] at e
          cases e
          exact ob
        · rw [upd_ne n] at e
          refine (J.hok b u e).stay (fun b' o' hb' g => ?_) (fun b' e' => by rw [upd_ne (nD e')]; exact e') (fun b' xs e' => by rw [upd_ne (nD e')]; exact e')
          rcases hb' with rfl | hb'
          · exact keep _ _ n (nS e) g
          · exact keep _ _ (nD hb') (nS hb') g
      refine ⟨rfl, .ref D, _, J0.call (ch := [D, kS]) (t' := tk) (d' := s'.drawn) (h' := h') ⟨?_, ?_, ?_, ?_, ?_, ?_, ?_⟩ hok J0.bare ?_, rfl, q H' D sm pD.2.1⟩
      · intro b o g _ _ nc
        exact keep b o (fun e => nc (by rw [e]; exact .head _)) (fun e => nc (by rw [e]; exact .tail _ (.head _))) g
      · intro b o g _ _ nc
        exact ⟨o.slots, keep b o (fun e => nc (by rw [e]; exact .head _)) (fun e => nc (by rw [e]; exact .tail _ (.head _))) g⟩
      · intro b o _ e nc
        rw [upd_ne (fun e => nc (by rw [e]; exact .head _))]
        exact e
      · intro b o g nc
        exact ⟨o, keep b o (fun e => nc (by rw [e]; exact .head _)) (fun e => nc (by rw [e]; exact .tail _ (.head _))) g⟩
      · intro b xs e
        rw [upd_ne (nD e)]; exact e
      · intro b o u e
        rw [upd_ne (nD e)]; exact e
      · intro b ps e
        exact ⟨#[], by rw [upd_ne (nD e), Array.append_empty]; exact e⟩
      · intro b hb
        cases hb with
        | head => exact ⟨hD.2.2.2.1, hD.2.1, hD.2.2.2.2.1, hD.2.2.2.2.2⟩
        | tail _ hb =>
          cases hb with
          | head => exact ⟨hS.2.2.2.1, hS.2.1, hS.2.2.2.2.1, hS.2.2.2.2.2⟩
          | tail _ hb => cases hb
  · refine pins_cons (pins_cons I gS hS (fun v e => nomatch e)) gD ⟨hD.1, hD.2.1, hD.2.2.1, hD.2.2.2.1, hD.2.2.2.2.1, fun q hq => ?_⟩ (fun v e => nomatch e)
    rcases List.mem_append.mp hq with hq | hq
    · exact hD.2.2.2.2.2 q (List.mem_append_left _ hq)
    · cases hq with
      | head => exact hne
      | tail _ hq => exact hD.2.2.2.2.2 q (List.mem_append_right _ hq)
/-- what the lists and places of a sort ask -/
def rSortK (K : PySem.W.Frag) (sp : Sp) (b : Addr) : List V → List V → Hp → VK → Prop := fun vs zs H Q => ∃ (a : Addr) (ys : List V) (kf : V → PyData), vs = [.ref a] ∧ zs = [.ref b] ∧ (SqL K H a ys ∨ SqT K H a ys) ∧
  AllAlike (ys.map kf) ∧ (Sortable (ys.map kf) ∨ ∀ d ∈ ys.map kf, d = .tuple []) ∧ (∀ y ∈ ys, (kf y).depth ≤ 60) ∧ (∀ y ∈ ys, ∀ H1, Same H H1 → sp [y] H1 (fun v H2 => Same H1 H2 ∧ Dp K H2 v (kf y)) E0) ∧
  ∀ H1 p, Same H H1 → H1 p = none → Q (.ref p) (L2.upd H1 p (.lst (ys.mergeSort (dataLe false kf))))
theorem list_sort_key (a b : Addr) : Builtin.«list.sort» { pos := [Value.ref a], kw := [("key", .ref b)] } = ksk_tree a (.ref b) false := rfl
/-- the list that is sorted is there, with all items; from here on -/
theorem sortK_tree {E' : Value → Shared → Prop} {Q : VK} {ys : List V} {its : List Value} {kf : V → PyData} {D : Addr} {n0 : Nat} (F : FnR X.prog X.w X.K X.mg X.base CX0 k f sp) (hr : Room k X.A.in1.in1) (I : L2.Inv X pins σ H s) (r : Vals ys its) (hz : ys.length ≤ sizeLine)
    (hal : AllAlike (ys.map kf)) (hso : Sortable (ys.map kf) ∨ ∀ d ∈ ys.map kf, d = .tuple []) (hde : ∀ y ∈ ys, (kf y).depth ≤ 60) (hsp : ∀ y ∈ ys, ∀ H1, Same H H1 → sp [y] H1 (fun v H2 => Same H1 H2 ∧ Dp X.K H2 v (kf y)) E0)
    (q : ∀ H1 p, Same H H1 → H1 p = none → Q (.ref p) (L2.upd H1 p (.lst (ys.mergeSort (dataLe false kf)))))
    (hD : FpOk X pins H D) (gD : s.heap.get? D = some (seqObj "list" its.toArray n0)) :
    wpAny (model X.prog X.w) X.A.in1.in1 (ksk_tree D (.ref f) false) (fun fin s' => fin = .done (.ret .none) ∧ EP X pins σ Q (.ref D) s') E' s := by
  unfold ksk_tree
  have hl : its.length ≤ sizeLine := by rw [← r.length]; exact hz
  have sz : its.toArray.size ≤ sizeLine := hl
  refine wpAny_bind (listItems_at gD rfl ?_)
  refine wpAny_bind (listUpdate_at gD rfl ?_ sz (Nat.zero_le _))
  have gD1 := get?_update_seq gD (fun _ => #[])
  refine wpAny_bind (seqEpoch_at gD1 rfl ?_)
  refine wpAny_bind (wpAny_newTuple ?_ hl)
  refine wpAny_bind (wpAny_newList ?_ (Nat.zero_le _))
  refine wpAny_holding ?_
  generalize hh1 : s.heap.update D (Obj.mapSeq fun _ => #[]) = h1 at gD1 ⊢
  have keep1 : ∀ b o, b ≠ D → s.heap.get? b = some o → h1.get? b = some o := fun b o n e => by rw [← hh1, Heap.get?_update_other _ _ (fun e => n e.symm)]; exact e
  have s1 : h1.objs.size = s.heap.objs.size := by rw [← hh1]; exact Heap.size_update _ _ _
  have I1 : L2.Inv X pins σ H { heap := h1, gens := s.gens, drawn := s.drawn, toks := s.toks, os := s.os } := I.turnedL (ch := [D]) (fun b o nb e => keep1 b o (fun e => nb (by rw [e]; exact .head _)) e) fun b hb => by
    cases hb with
    | head => exact hD
    | tail _ h => cases h
  dsimp only
  generalize hh2 : h1.push { cls := Value.type "tuple", data := Data.seq its.toArray } = h2
  have keep2 : ∀ b o, h1.get? b = some o → h2.get? b = some o := fun b o e => by rw [← hh2]; exact Heap.get?_push_of_some _ e
  have s2 : h2.objs.size = h1.objs.size + 1 := by rw [← hh2]; exact Array.size_push _
  have keep3 : ∀ b o, h1.get? b = some o → (h2.push { cls := Value.type "list", data := Data.seq (#[] : Array Value) }).get? b = some o := fun b o e => Heap.get?_push_of_some _ (keep2 b o e)
  have I2 := I1.kept (h' := h2.push { cls := Value.type "list", data := Data.seq (#[] : Array Value) }) (t' := s.toks) keep3
  have hS : FpOk X pins H h2.objs.size := I1.fpOk (by show h1.objs.size ≤ _; omega) (I1.hok.fresh (by show h1.objs.size ≤ _; omega))
  have lt1 : D < h1.objs.size := Heap.lt_size gD1
  have ne : h2.objs.size ≠ D := by rw [s2]; exact Nat.ne_of_gt (Nat.lt_succ_of_lt lt1)
  exact sortK_rest F hr I2 r hz hal hso hde hsp q hD hS ne (keep3 _ _ gD1) (Heap.get?_push_size _ rfl)
/-- sorted of a list or a tuple, down to the sort of the new list -/
theorem sorted_seq {E : Value → Shared → Prop} {A : Around} {P : Program} {w : World} {Q : Value → Shared → Prop} {l : Addr} {T : String} {o : Obj} {items : Array Value} {n : Nat} {kw : List (Str × Value)} (hT : T = "list" ∨ T = "tuple") (g : s.heap.get? l = some o) (hc : o.cls = .type T) (hd : o.data = .seq items n) (hz : items.size ≤ sizeLine)
    (a1 : argsOk "sorted" { pos := [Value.ref l], kw := kw }) (a2 : ∀ x : Addr, argsOk "list.sort" { pos := [Value.ref x], kw := kw })
    (h : ∀ (h' : Heap), (∀ b o, s.heap.get? b = some o → h'.get? b = some o) → ∀ E' : Value → Shared → Prop, wpAny (model P w) A.in1.in1 (Builtin.«list.sort» { pos := [Value.ref h'.objs.size], kw := kw }) (fun f s' => f = .done (.ret .none) ∧ Q (.ref h'.objs.size) s') E'
      { heap := h'.push (seqObj "list" items 0), gens := s.gens, drawn := s.drawn, toks := s.toks, os := s.os }) :
    wpAny (model P w) A (call (.builtin "sorted") [.ref l] kw) Q E s := by
  refine wpAny_call (codeAny_call_builtin plain_sorted entry_sorted ?_)
  rw [show checkBuiltinCall "sorted" { pos := [Value.ref l], kw := kw } = pure () from a1]
  refine wpAny_pure ?_
  unfold Builtin.sorted
  show wpAny _ _ (checkCount "sorted" 1 1 1 >>= _) _ _ _
  refine wpAny_bind ?_
  rw [show checkCount "sorted" 1 1 1 = pure () from rfl]
  refine wpAny_pure ?_
  show wpAny _ _ (collect (Value.ref l) >>= _) _ _ _
  refine wpAny_bind (wpAny_collect_seq l hT g hc hd (fun h' keep => ?_) hz)
  refine wpAny_bind (wpAny_newList ?_ hz)
  refine wpAny_bind (wpAny_holding (wpAny_call (codeAny_call_builtin (by decide +kernel) entry_list_sort ?_)))
  refine slot_list_sort.check _ _ _ _ _ _ _ _ ⟨_, Heap.get?_push_size _ rfl, rfl⟩ (a2 _) ?_
  refine wpAny_mono (h h' keep E) (fun f s' q => ?_) (fun _ _ z => ?_)
  · obtain ⟨rfl, q⟩ := q
    exact wpAny_pure q
  · exact z
theorem cr_sortK (F : FnR X.prog X.w X.K X.mg X.base CX0 k f sp) (hr : Room (k + 1) X.A) : CallRK X (.builtin "sorted") ["key"] (rSortK X.K sp f) := by
  intro pins s σ H xs zs us ws Q I rx rz h
  obtain ⟨a, ys, kf, rfl, rfl, ha, hal, hso, hde, hsp, q⟩ := h
  have e1 := rx.ref1
  have e2 := rz.ref1
  subst e1 e2
  show wpAny _ _ (call (.builtin "sorted") [.ref a] [("key", .ref f)]) _ _ _
  obtain ⟨its, T, o, n, r, hT, g, hc, hd, hz⟩ : ∃ (its : List Value) (T : String) (o : Obj) (n : Nat), Vals ys its ∧ (T = "list" ∨ T = "tuple") ∧ s.heap.get? a = some o ∧ o.cls = .type T ∧ o.data = .seq its.toArray n ∧ ys.length ≤ sizeLine := by
    rcases ha with ha | ha
    · obtain ⟨its, r, pl, hz⟩ := I.list ha
      obtain ⟨o, n, g, hc, _, hd⟩ := pl
      exact ⟨its, "list", o, n, r, .inl rfl, g, hc, hd, hz⟩
    · obtain ⟨its, r, pl, hz⟩ := I.tuple ha
      obtain ⟨o, g, hc, n, hd⟩ := pl
      exact ⟨its, "tuple", o, n, r, .inr rfl, g, hc, hd, hz⟩
  have hl : its.toArray.size ≤ sizeLine := by show its.length ≤ _; rw [← r.length]; exact hz
  refine sorted_seq hT g hc hd hl ?_ ?_ (fun h' keep E' => ?_)
  · rfl
  · intro x; rfl
  rw [list_sort_key]
  have I0 := I.kept (h' := h') (t' := s.toks) keep
  have I1 := I.kept (h' := h'.push (seqObj "list" its.toArray 0)) (t' := s.toks) (fun b u e => Heap.get?_push_of_some _ (keep b u e))
  have hD : FpOk X pins H h'.objs.size := I0.fpOk (Nat.le_refl _) (I0.hok.fresh (Nat.le_refl _))
  exact sortK_tree F (room_in2 hr) I1 r hz hal hso hde hsp q hD (Heap.get?_push_size _ rfl)
end
end Ask
namespace Ask
open PySem L2 PySem.Spec PyProof.Rows
theorem line1000 {n : Nat} (h : n ≤ 1000) : n ≤ sizeLine := Nat.le_of_lt (small1000 h)
theorem boot_str : bootBuiltins ("str" : Str) = some (.type "str") := by decide +kernel
theorem boot_isi : bootBuiltins ("isinstance" : Str) = some (.builtin "isinstance") := by decide +kernel
theorem boot_tuple : bootBuiltins ("tuple" : Str) = some (.type "tuple") := by decide +kernel
theorem boot_list : bootBuiltins ("list" : Str) = some (.type "list") := by decide +kernel
theorem boot_sorted : bootBuiltins ("sorted" : Str) = some (.builtin "sorted") := by decide +kernel
theorem same_new {H : Hp} {p : Addr} (hp : H p = none) (o : HO) : Same H (L2.upd H p o) := fun b u e => by rw [upd_ne (ne_of_none e hp)]; exact e
theorem ifF {c : Bool} {A B : Prop} (h : c = false) (k : B) : if c = true then A else B := by rw [h]; exact iteF k
theorem ifT {c : Bool} {A B : Prop} (h : c = true) (k : A) : if c = true then A else B := by rw [h]; exact iteT k
/-! ### a def with a star alone, called -/
structure Dr (P : Program) (w : World) (K : PySem.W.Frag) (mg : Str → Option Value) (base : Heap) (k : Nat) (x : Str) (sp : Sp) : Prop where
  ex : ∃ f : Addr, mg x = some (.ref f) ∧ PySem.W.keepIn K (.ref f) = true ∧ FnR P w K mg base CX0 k f sp
section
variable {X : Cx}
theorem pe_dr0 {k : Nat} {x : Str} {sp : Sp} {p pos : Pos} (D : Dr X.prog X.w X.K X.mg X.base k x sp) (hr : Room k X.A) (hg : Gl X x) (hdb : (x == ("__debug__" : Str)) = false := by decide) : PE X (.Call (.Name x p) [] [] pos) (fun σ H Q => sp [] H Q E0) := by
  obtain ⟨f, hm, hk, F⟩ := D.ex
  refine ⟨fun pins s σ H Q I h => ?_⟩
  refine wpAny_Call_Name_kw (ld_glob I hg hm ?_ hdb)
  exact PySem.W.callWith_K0 I.kIn hk (wpAny_call (run_fnR F hr pass0 I .nil h))
theorem pe_dr {k : Nat} {x : Str} {sp : Sp} {e : Expr} {es : List Expr} {t : TA} {p pos : Pos} (D : Dr X.prog X.w X.K X.mg X.base k x sp) (hr : Room k X.A) (hg : Gl X x) (ha : PA X (e :: es) t) (hdb : (x == ("__debug__" : Str)) = false := by decide)
    (he : starEach (e :: es) X.env = (false, eval e X.env) :: starEach es X.env := by rfl) (hpl : (backTo pos (starEach es X.env)).any (·.1) = false := by rfl) : PE X (.Call (.Name x p) (e :: es) [] pos) (fun σ H Q => t σ H fun vs H1 => sp vs H1 Q E0) := by
  obtain ⟨f, hm, hk, F⟩ := D.ex
  refine ⟨fun pins s σ H Q I h => ?_⟩
  refine wpAny_Call_Name_kw (ld_glob I hg hm ?_ hdb)
  refine PySem.W.callWith_K (h₀ := X.base) I.ok.mod.kin hk (thn (ha.run pos pins s σ H _ I h) fun us s1 ⟨vs, H1, I1, r, q⟩ => ⟨I1.kIn, ?_⟩) he hpl
  exact wpAny_call (run_fnR F hr pass0 I1 r q)
/-! ### tuples (int, int, text) compared -/
def at3 (i j : Int) (z : Str) : List V := [.int i, .int j, .str z]
def eq3 (i j : Int) (z : Str) (i' j' : Int) (z' : Str) : Nat → Bool
  | 0 => i == i'
  | 1 => j == j'
  | _ => z == z'
/-- op at each place -/
def op3 (fi : Int → Int → Bool) (fs : Str → Str → Bool) (i j : Int) (z : Str) (i' j' : Int) (z' : Str) : Nat → Bool
  | 0 => fi i i'
  | 1 => fi j j'
  | _ => fs z z'
def cmp3 (fi : Int → Int → Bool) (fs : Str → Str → Bool) (fin : Bool) (i j : Int) (z : Str) (i' j' : Int) (z' : Str) : Bool := Ob.lexAt (eq3 i j z i' j' z') (op3 fi fs i j z i' j' z') fin 0 3
def sLt (x y : Str) : Bool := decide (x.cps.toList < y.cps.toList)
def rC3 (K : PySem.W.Frag) (fi : Int → Int → Bool) (fs : Str → Str → Bool) (fin : Bool) : R2 := fun x y H Q => ∃ (a b : Addr) (i j : Int) (z : Str) (i' j' : Int) (z' : Str), x = .ref a ∧ y = .ref b ∧ SqT K H a (at3 i j z) ∧ SqT K H b (at3 i' j' z') ∧ Q (.bl (cmp3 fi fs fin i j z i' j' z')) H
theorem vals_three {x y z : V} {us : List Value} (r : Vals [x, y, z] us) : ∃ u1 u2 u3, us = [u1, u2, u3] ∧ RelV x u1 ∧ RelV y u2 ∧ RelV z u3 := by
  match us, r with
  | [_, _, _], .cons a (.cons b (.cons c .nil)) => exact ⟨_, _, _, rfl, a, b, c⟩
theorem op_c3 {op : CmpOp} {fi : Int → Int → Bool} {fs : Str → Str → Bool} {fin : Bool} (hi : ∀ (A : Around) (s : Shared) (a b : Int) (t u : Tok), Ob.RcOp op A s (.int a t) (.int b u) (fi a b)) (hs : ∀ (A : Around) (s : Shared) (a b : Str) (t u : Tok), Ob.RcOp op A s (.str a t) (.str b u) (fs a b))
    (tu : ∀ {A : Around} {s : Shared} {l b : Addr} {items items2 : Array Value} {e r : Nat → Bool}, s.heap.IsTuple l items → s.heap.IsTuple b items2 → A.units < cLine → (∀ j (h1 : j < items.size) (h2 : j < items2.size), SeqAt.EqAt A.in1 s items[j] items2[j] (e j)) →
      (∀ j (h1 : j < items.size) (h2 : j < items2.size), e j = false → Ob.RcOp op A.in1 s items[j] items2[j] (r j)) → items.size = 3 → items2.size = 3 → Ob.RcOp op A s (.ref l) (.ref b) (Ob.lexAt e r fin 0 3))
    (hc : ∀ a b : Addr, compareOp op (.ref a) (.ref b) = richCompare op (.ref a) (.ref b)) (hu : X.A.units < cLine) : OpR X (compareOp op) (rC3 X.K fi fs fin) := by
  intro pins s σ H x y v u Q I rx ry h
  obtain ⟨a, b, i, j, z, i', j', z', rfl, rfl, ha, hb, q⟩ := h
  cases rx
  cases ry
  obtain ⟨its, r1, p1, _⟩ := I.tuple ha
  obtain ⟨its2, r2, p2, _⟩ := I.tuple hb
  obtain ⟨w1, w2, w3, rfl, a1, a2, a3⟩ := vals_three r1
  obtain ⟨w4, w5, w6, rfl, b1, b2, b3⟩ := vals_three r2
  obtain ⟨t1, rfl⟩ := a1
  obtain ⟨t2, rfl⟩ := a2
  obtain ⟨t3, rfl⟩ := a3
  obtain ⟨u1, rfl⟩ := b1
  obtain ⟨u2, rfl⟩ := b2
  obtain ⟨u3, rfl⟩ := b3
  have R := tu (A := X.A) (s := s) (e := eq3 i j z i' j' z') (r := op3 fi fs i j z i' j' z') p1 p2 hu (fun n h1 h2 => by
    match n with
    | 0 => exact SeqAt.EqAt.int_int _ _ _ _
    | 1 => exact SeqAt.EqAt.int_int _ _ _ _
    | 2 => exact SeqAt.EqAt.str_str _ _ _ _
    | n + 3 => exact absurd h1 (by simp)) (fun n h1 h2 _ => by
    match n with
    | 0 => exact hi _ _ _ _ _ _
    | 1 => exact hi _ _ _ _ _ _
    | 2 => exact hs _ _ _ _ _ _
    | n + 3 => exact absurd h1 (by simp)) rfl rfl
  rw [hc]
  exact R X.prog X.w X.xe (EP X pins σ Q) ⟨.bl _, H, I, rfl, q⟩
theorem op_lt3 (hu : X.A.units < cLine) : OpR X (compareOp .Lt) (rC3 X.K (fun a b => decide (a < b)) sLt false) := op_c3 (fun _ _ a b t u => .lt_int a b t u) (fun _ _ a b t u _ _ _ _ h => PyProof.Rows.lt_str h) (fun h1 h2 h3 h4 h5 e1 e2 => by
  have := Ob.RcOp.tuples_lt h1 h2 h3 h4 h5
  rw [e1, e2] at this
  exact this) (fun _ _ => rfl) hu
theorem op_le3 (hu : X.A.units < cLine) : OpR X (compareOp .LtE) (rC3 X.K (fun a b => decide (a ≤ b)) (fun x y => !sLt y x) true) := op_c3 (fun _ _ a b t u => .le_int a b t u) (fun _ _ a b t u _ _ _ _ h => PySem.P.le_str h) (fun h1 h2 h3 h4 h5 e1 e2 => by
  have := Ob.RcOp.tuples_le h1 h2 h3 h4 h5
  rw [e1, e2] at this
  exact this) (fun _ _ => rfl) hu
theorem op_gt3 (hu : X.A.units < cLine) : OpR X (compareOp .Gt) (rC3 X.K (fun a b => decide (b < a)) (fun x y => sLt y x) false) := op_c3 (fun _ _ a b t u => .gt_int a b t u) (fun _ _ a b t u _ _ _ _ h => PySem.P.gt_str h) (fun h1 h2 h3 h4 h5 e1 e2 => by
  have := Ob.RcOp.tuples_gt h1 h2 h3 h4 h5
  rw [e1, e2] at this
  exact this) (fun _ _ => rfl) hu
theorem op_ge3 (hu : X.A.units < cLine) : OpR X (compareOp .GtE) (rC3 X.K (fun a b => decide (b ≤ a)) (fun x y => !sLt x y) true) := op_c3 (fun _ _ a b t u => .ge_int a b t u) (fun _ _ a b t u _ _ _ _ h => PySem.P.ge_str h) (fun h1 h2 h3 h4 h5 e1 e2 => by
  have := Ob.RcOp.tuples_ge h1 h2 h3 h4 h5
  rw [e1, e2] at this
  exact this) (fun _ _ => rfl) hu
end
end Ask
namespace Ask
open PySem L2
/-! ### values, their places -/
def vOk : V → Prop
  | .non => True
  | .int _ => True
  | .str z => z.length ≤ 1000 ∧ PyData.strOk z = true
  | _ => False
def p1 : V → Int
  | .non => 0
  | .str _ => 2
  | _ => 1
def p2 : V → Int
  | .int i => i
  | _ => 0
def p3 : V → Str
  | .str z => z
  | _ => ""
def pl (v : V) : List V := at3 (p1 v) (p2 v) (p3 v)
theorem vOk.ty {K : PySem.W.Frag} {H : Hp} {v : V} (h : vOk v) : ∃ (t : String) (b : Bool), TyX K H v (.type t) ∧ kitB t "str" = some b ∧ (b = true ↔ ∃ z, v = .str z) := by
  cases v with
  | non => exact ⟨"NoneType", false, .base .non, by decide +kernel, by simp⟩
  | int i => exact ⟨"int", false, .base (.int i), by decide +kernel, by simp⟩
  | str z => exact ⟨"str", true, .base (.str z), by decide +kernel, by simp⟩
  | _ => exact h.elim
def plD (v : V) : PyData := .tuple [.int (p1 v), .int (p2 v), .str (p3 v)]
theorem pl_dp {K : PySem.W.Frag} {H : Hp} {a : Addr} {v : V} (h : SqT K H a (pl v)) : Dp K H (.ref a) (plD v) := .tup h (.cons (.int _) (.cons (.int _) (.cons (.str _) .nil)))
theorem pl_shaped {v : V} (h : vOk v) : SeqAt.shaped (plD v) = true := by
  have e : PyData.strOk (p3 v) = true := by
    cases v with
    | str z => exact h.2
    | _ => show PyData.strOk ("" : Str) = true; decide +kernel
  unfold SeqAt.shaped plD
  simp only [PyData.canLay0, PyData.canLayAll0, e, Bool.and_true, Bool.true_and]
  exact decide_eq_true (by simp only [PyData.depth, PyData.depthAll]; omega)
theorem pl_eqv {x y : V} (hx : vOk x) (hy : vOk y) : PyData.eqv (plD x) (plD y) = decide (x = y) := by
  have e : PyData.eqv (plD x) (plD y) = (p1 x == p1 y && (p2 x == p2 y && p3 x == p3 y)) := by
    unfold plD
    simp only [PyData.eqv, PyData.eqvAll, Bool.and_true]
  rw [e]
  cases x with
  | non =>
    cases y with
    | non => decide +kernel
    | int j => simp [p1]
    | str z => simp [p1]
    | _ => exact hy.elim
  | int i =>
    cases y with
    | non => simp [p1]
    | int j =>
      by_cases q : i = j
      · subst q; simp [p1, p2, p3]
      · have : ¬ (V.int i = V.int j) := fun t => q (V.int.inj t)
        simp [p1, p2, p3, q]
    | str z => simp [p1]
    | _ => exact hy.elim
  | str z =>
    cases y with
    | non => simp [p1]
    | int j => simp [p1]
    | str z' =>
      by_cases q : z = z'
      · subst q; simp [p1, p2, p3]
      · simp [p1, p2, p3, q]
    | _ => exact hy.elim
  | _ => exact hx.elim
theorem v_scal {x y : V} (hx : vOk x) (hy : vOk y) : scal x y = true := by
  cases x <;> cases y <;> first | rfl | exact hx.elim | exact hy.elim
theorem all_nil {p : V → Prop} : ∀ x ∈ ([] : List V), p x := fun _ h => nomatch h
theorem all_cons {p : V → Prop} {a : V} {l : List V} (h : p a) (t : ∀ x ∈ l, p x) : ∀ x ∈ a :: l, p x := fun x hx => by
  cases hx with
  | head => exact h
  | tail _ hx => exact t x hx
/-- values of this law: small -/
def vSm : V → Prop
  | .non => True
  | .int i => i.natAbs < 2 ^ 70
  | .str z => z.length ≤ 10 ∧ PyData.strOk z = true
  | _ => False
theorem vSm.ok {v : V} (h : vSm v) : vOk v := by
  cases v with
  | non => trivial
  | int i => trivial
  | str z => exact ⟨Nat.le_trans h.1 (by decide), h.2⟩
  | _ => exact h.elim
section
variable {P : Program} {w : World} {K : PySem.W.Frag} {mg : Str → Option Value} {base : Heap}
def spPlace : Sp := fun vs H Q _ => ∃ v : V, vs = [v] ∧ vOk v ∧ ∀ p, H p = none → Q (.ref p) (L2.upd H p (.tup (pl v)))
abbrev n_value_place : List Str := ["value"]
theorem sc_value_place : FnScope n_value_place ["value"] (defScope sPlace) := ⟨rfl, rfl, rfl, by decide +kernel, rfl, by decide +kernel, by decide +kernel⟩
theorem ok_value_place {f : Addr} {fd : FuncData} (F : Fun K "value_place" "value_place" sPlace f fd) (B : Blt mg) : FnOk P w K mg base CX0 1 f fd ["value"] spPlace := by
  refine F.ok sc_value_place (fun vs H Q E h => ?_) (fun cdv A outer s H vs Q E hr h => ?_)
  · obtain ⟨v, rfl, _⟩ := h
    rfl
  · obtain ⟨v, rfl, hv, k⟩ := h
    refine ⟨_, pss_cons (ps_if (pt_cmpR op_isN (pv 0) pe_non (nomark _)) (pss_one (ps_ret (pe_tup (pa_cons pe_int (pa_cons pe_int (pa_cons pe_str pa_nil)))))) pss_nil) (pss_cons (ps_if (pt_val (pe_callB call_isi (by rfl) B.isi boot_isi (pa_cons (pv 0) (pa_cons (pe_bltn (v := .ty "str") (by rfl) B.str boot_str rfl) pa_nil)))) (pss_one (ps_ret (pe_tup (pa_cons pe_int (pa_cons pe_int (pa_cons (pv 0) pa_nil)))))) pss_nil) (pss_one (ps_ret (pe_tup (pa_cons pe_int (pa_cons (pv 0) (pa_cons pe_str pa_nil))))))), ?_⟩
    refine ⟨_, rfl, rfl, _, rfl, ?_⟩
    cases v with
    | non => exact iteT ⟨by show 3 ≤ sizeLine; decide, fun p hp => k p hp⟩
    | int i => exact iteF ⟨_, rfl, .int i, .ty "str", .type "int", .type "str", false, rfl, .ty _, .base (.int i), kit_ty (by decide +kernel), _, rfl, iteF ⟨_, rfl, by show 3 ≤ sizeLine; decide, fun p hp => k p hp⟩⟩
    | str z => exact iteF ⟨_, rfl, .str z, .ty "str", .type "str", .type "str", true, rfl, .ty _, .base (.str z), kit_ty (by decide +kernel), _, rfl, iteT ⟨_, rfl, by show 3 ≤ sizeLine; decide, fun p hp => k p hp⟩⟩
    | _ => exact hv.elim
abbrev n_law_order : List Str := ["_law_value_here"]
theorem sc_law_order : FnScope n_law_order ["_law_value_here"] (defScope sOrder) := ⟨rfl, rfl, rfl, by decide +kernel, rfl, by decide +kernel, by decide +kernel⟩
theorem ok_law_order {f : Addr} {fd : FuncData} (F : Fun K "_law_order" "_law_order" sOrder f fd) (B : Blt mg) : FnOk P w K mg base CX0 1 f fd ["_law_value_here"] spPlace := by
  refine F.ok sc_law_order (fun vs H Q E h => ?_) (fun cdv A outer s H vs Q E hr h => ?_)
  · obtain ⟨v, rfl, _⟩ := h
    rfl
  · obtain ⟨v, rfl, hv, k⟩ := h
    refine ⟨_, pss_cons (ps_if (pt_cmpR op_isN (pv 0) pe_non (nomark _)) (pss_one (ps_ret (pe_tup (pa_cons pe_int (pa_cons pe_int (pa_cons pe_str pa_nil)))))) pss_nil) (pss_one (ps_ret (pe_ifExp (pt_val (pe_callB call_isi (by rfl) B.isi boot_isi (pa_cons (pv 0) (pa_cons (pe_bltn (v := .ty "str") (by rfl) B.str boot_str rfl) pa_nil)))) (pe_tup (pa_cons pe_int (pa_cons pe_int (pa_cons (pv 0) pa_nil)))) (pe_tup (pa_cons pe_int (pa_cons (pe_callTy call_int1 (by rfl) B.int boot_int (pa_cons (pv 0) pa_nil)) (pa_cons pe_str pa_nil))))))), ?_⟩
    refine ⟨_, rfl, rfl, _, rfl, ?_⟩
    cases v with
    | non => exact iteT ⟨by show 3 ≤ sizeLine; decide, fun p hp => k p hp⟩
    | int i => exact iteF ⟨_, rfl, .int i, .ty "str", .type "int", .type "str", false, rfl, .ty _, .base (.int i), kit_ty (by decide +kernel), _, rfl, iteF ⟨_, rfl, .inl ⟨_, rfl, by show 3 ≤ sizeLine; decide, fun p hp => k p hp⟩⟩⟩
    | str z => exact iteF ⟨_, rfl, .str z, .ty "str", .type "str", .type "str", true, rfl, .ty _, .base (.str z), kit_ty (by decide +kernel), _, rfl, iteT ⟨_, rfl, by show 3 ≤ sizeLine; decide, fun p hp => k p hp⟩⟩
    | _ => exact hv.elim
/-! ### _law_value -/
def spVal : Sp := fun vs H Q _ => ∃ (d : Addr) (z : Str) (p : Int), vs = [.ref d, .str z] ∧ Tape H d p ∧ p < 990000000 ∧ ∀ (x : V) (p' : Int) (H' : Hp), vSm x → Tape H' d p' → p' ≤ p + 2 → Off H H' d → Q x H'
abbrev n_law_value : List Str := ["_law_tape", "_law_kind"]
theorem sc_law_value : FnScope n_law_value ["_law_tape", "_law_kind"] (defScope sVal) := ⟨rfl, rfl, rfl, by decide +kernel, rfl, by decide +kernel, by decide +kernel⟩
theorem ok_law_value {f : Addr} {fd : FuncData} (F : Fun K "_law_value" "_law_value" sVal f fd) (B : Blt mg) (DD : Dn P w K mg base 1 "_law_draw" ["_law_tape", "_law_many"] spDraw) (DP : Dn P w K mg base 2 "_law_pick" ["_law_tape", "_law_items"] (spPick K)) : FnOk P w K mg base CX0 3 f fd ["_law_tape", "_law_kind"] spVal := by
  refine F.ok sc_law_value (fun vs H Q E h => ?_) (fun cdv A outer s H vs Q E hr h => ?_)
  · obtain ⟨d, z, p, rfl, _⟩ := h
    rfl
  · obtain ⟨d, z, p, rfl, T, hp, k⟩ := h
    refine ⟨_, pss_cons (ps_if (pt_cmpR op_eq (pe_dn DD (hr.mono (by decide)) (by rfl) (pa_cons (pv 0) (pa_cons pe_int pa_nil))) pe_int (nomark _)) (pss_one (ps_ret pe_non)) pss_nil)
      (pss_cons (ps_if (pt_cmpR op_eq (pv 1) pe_str (nomark _)) (pss_one (ps_ret (pe_dn DP hr (by rfl) (pa_cons (pv 0) (pa_cons (pe_lst (pa_cons pe_str (pa_cons pe_str (pa_cons pe_str (pa_cons pe_str (pa_cons pe_str (pa_cons pe_str (pa_cons pe_str pa_nil)))))))) pa_nil))))) pss_nil)
      (pss_one (ps_ret (pe_dn DP hr (by rfl) (pa_cons (pv 0) (pa_cons (pe_lst (pa_cons pe_int (pa_cons pe_int (pa_cons pe_int (pa_cons pe_int (pa_cons pe_int (pa_cons pe_int (pa_cons (pe_un un_neg pe_int) (pa_cons (pe_op op_pow pe_int pe_int) pa_nil))))))))) pa_nil)))))), ?_⟩
    refine ⟨_, rfl, d, 4, p, rfl, by decide, by decide, T, by omega, fun n p1 H1 n0 n1 T1 h1 o1 => ⟨rfl, _, rfl, ?_⟩⟩
    refine ite2 (fun _ => k .non p1 H1 trivial T1 (by omega) o1) (fun _ => ⟨_, rfl, rfl, _, rfl, ?_⟩)
    refine ite2 (fun _ => ?_) (fun _ => ?_)
    · refine ⟨_, rfl, by show 7 ≤ sizeLine; decide, fun l hl => ?_⟩
      refine ⟨d, .ref l, _, p1, rfl, T1.new hl _, by omega, .inl ⟨l, rfl, SqL.of upd_same⟩, ?_, ?_, fun x p2 H2 hx T2 h2 o2 => k x p2 H2 ?_ T2 (by omega) ((o1.new hl _).trans o2)⟩
      · intro z; cases z
      · show 7 < 1073741824; decide
      · have s1 : ∀ z : Str, z.length ≤ 10 ∧ PyData.strOk z = true → vSm (.str z) := fun _ h => h
        refine all_cons (s1 _ ?_) (all_cons (s1 _ ?_) (all_cons (s1 _ ?_) (all_cons (s1 _ ?_) (all_cons (s1 _ ?_) (all_cons (s1 _ ?_) (all_cons (s1 _ ?_) all_nil)))))) x hx <;> exact ⟨by decide +kernel, by decide +kernel⟩
    · refine ⟨_, rfl, 1, rfl, 10, 20, rfl, rfl, ⟨by decide, by decide, by decide⟩, by show 8 ≤ sizeLine; decide, fun l hl => ?_⟩
      refine ⟨d, .ref l, _, p1, rfl, T1.new hl _, by omega, .inl ⟨l, rfl, SqL.of upd_same⟩, ?_, ?_, fun x p2 H2 hx T2 h2 o2 => k x p2 H2 ?_ T2 (by omega) ((o1.new hl _).trans o2)⟩
      · intro z; cases z
      · show 8 < 1073741824; decide
      · have i1 : ∀ i : Int, i.natAbs < 2 ^ 70 → vSm (.int i) := fun _ h => h
        exact all_cons (i1 _ (by decide)) (all_cons (i1 _ (by decide)) (all_cons (i1 _ (by decide)) (all_cons (i1 _ (by decide)) (all_cons (i1 _ (by decide)) (all_cons (i1 _ (by decide)) (all_cons (i1 _ (by decide)) (all_cons (i1 _ (by decide +kernel)) all_nil))))))) x hx
end
end Ask
namespace Ask
open PySem L2
open PySem.W (EachIs AllAlike Sortable dataLe dataLt alike alikeAll keyToksAll)
/-! ### the order of values -/
def pLt (x y : V) : Bool := cmp3 (fun a b => decide (a < b)) sLt false (p1 x) (p2 x) (p3 x) (p1 y) (p2 y) (p3 y)
theorem pLt_if (x y : V) : pLt x y = if p1 x == p1 y then if p2 x == p2 y then if p3 x == p3 y then false else sLt (p3 x) (p3 y) else decide (p2 x < p2 y) else decide (p1 x < p1 y) := by
  unfold pLt cmp3
  simp only [Ob.lexAt, eq3, op3]
theorem lt_pl (x y : V) : dataLt (plD x) (plD y) = pLt x y := by
  rw [pLt_if]
  unfold plD
  rw [PySem.W.dataLt_tuple, PySem.W.dataLt_cons (alike.eq_3 _ _), PySem.W.dataLt_cons (alike.eq_3 _ _), PySem.W.dataLt_cons (alike.eq_4 _ _), PySem.W.dataLt_int, PySem.W.dataLt_int, PySem.W.dataLt_str]
  simp only [PyData.eqv, sLt]
  rfl
theorem sLt_tri {x y : Str} (h : x ≠ y) : sLt x y = true ∨ sLt y x = true := by
  unfold sLt
  by_cases a : x.cps.toList < y.cps.toList
  · exact .inl (decide_eq_true a)
  · by_cases b : y.cps.toList < x.cps.toList
    · exact .inr (decide_eq_true b)
    · refine (h ?_).elim
      have e : x.cps.toList = y.cps.toList := List.le_antisymm b a
      cases x with
      | mk a => cases y with
        | mk b => exact congrArg Str.mk (Array.toList_inj.mp e)
theorem pLt_tri {x y : V} (hx : vOk x) (hy : vOk y) (h : x ≠ y) : pLt x y = true ∨ pLt y x = true := by
  rw [pLt_if, pLt_if]
  cases x with
  | non =>
    cases y with
    | non => exact (h rfl).elim
    | int j => exact .inl (by simp [p1])
    | str z => exact .inl (by simp [p1])
    | _ => exact hy.elim
  | int i =>
    cases y with
    | non => exact .inr (by simp [p1])
    | int j =>
      have : i ≠ j := fun e => h (by rw [e])
      have a : (i == j) = false := by simpa using this
      have b : (j == i) = false := by simpa using this.symm
      rcases Int.lt_or_gt_of_ne this with q | q
      · exact .inl (by simp [p1, p2, a, q])
      · exact .inr (by simp [p1, p2, b, q])
    | str z => exact .inl (by simp [p1])
    | _ => exact hy.elim
  | str z =>
    cases y with
    | non => exact .inr (by simp [p1])
    | int j => exact .inr (by simp [p1])
    | str z' =>
      have : z ≠ z' := fun e => h (by rw [e])
      have a : (z == z') = false := by simpa using this
      have b : (z' == z) = false := by simpa using this.symm
      simp only [p1, p2, p3, a, b, beq_self_eq_true, if_true, Bool.false_eq_true, if_false]
      exact sLt_tri this
    | _ => exact hy.elim
  | _ => exact hx.elim
theorem plD_alike (x y : V) : alike (plD x) (plD y) = true := by
  unfold plD
  rw [alike.eq_6, alikeAll.eq_1, alikeAll.eq_1, alikeAll.eq_1, alikeAll.eq_2, alike.eq_3, alike.eq_3, alike.eq_4]
  rfl
section
variable {P : Program} {w : World} {K : PySem.W.Frag} {mg : Str → Option Value} {base : Heap}
theorem fnR_of {k : Nat} {f : Addr} {fd : FuncData} {ps : List Str} {sp : Sp} (hb : Binds K fd ps []) (F : FnOk P w K mg base CX0 k f fd ps sp) : FnR P w K mg base CX0 k f sp := fun A outer s H us vs Q E hr e rv h => by
  refine F.run A outer s H ⟨us, []⟩ us vs Q E hr e ?_ rv h
  have kin : K.In s.heap := fun b o hb => (e.bs b o (e.mod.kin b o hb)).1
  have := hb s us kin (by rw [List.append_nil, ← rv.length]; exact F.len vs H Q E h)
  rwa [List.append_nil] at this
theorem same_fresh {H0 H H1 : Hp} {D : Addr} (a : Same H0 H) (hD : H0 D = none) (s : Same H H1) (u : HO) : Same H0 (L2.upd H1 D u) := fun b v e => by
  rw [upd_ne (ne_of_none e hD)]
  exact s b v (a b v e)
theorem each_len {α β : Type} {R : α → β → Prop} {as : List α} {bs : List β} (h : EachIs R as bs) : as.length = bs.length := by
  induction h with
  | nil => rfl
  | cons _ _ ih => rw [List.length_cons, List.length_cons, ih]
end
def leP : V → V → Bool := dataLe false plD
theorem leP_eq (x y : V) : leP x y = !pLt y x := by
  unfold leP
  rw [PySem.W.dataLe_eq, ← lt_pl]
  rfl
theorem leP_total : PySem.W.TotalLe leP := by
  unfold leP dataLe
  exact PySem.W.sortLe_total _ _ _
theorem vals_alike (ys : List V) : AllAlike (ys.map plD) := fun d hd d' hd' => by
  obtain ⟨y, _, rfl⟩ := List.mem_map.mp hd
  obtain ⟨y', _, rfl⟩ := List.mem_map.mp hd'
  exact plD_alike y y'
theorem vals_sort (ys : List V) : Sortable (ys.map plD) := .inl fun d hd => by
  obtain ⟨y, _, rfl⟩ := List.mem_map.mp hd
  exact ⟨_, _, rfl⟩
theorem plD_depth (y : V) : (plD y).depth ≤ 60 := by
  simp only [plD, PyData.depth, PyData.depthAll]
  omega
end Ask
namespace Ask
open PySem L2 PySem.W PyProof.Rows
/-! ### min and max by the places of values -/
section
variable {X : Cx} {pins : List (Addr × Obj)} {σ : L2.St} {H : Hp} {s : Shared} {k : Nat} {f : Addr} {sp : Sp}
theorem room_in1 {k : Nat} {A : Around} (h : Room (k + 1) A) : Room k A.in1 := ⟨h.hd, by have := h.dp; show A.depth + 3 * k + 5 < _; omega, by have := h.un; show A.units + 1 + 16 * k + 200 < _; omega⟩
theorem run_key1 {Q : VK} {us : List Value} {vs : List V} (F : FnR X.prog X.w X.K X.mg X.base CX0 k f sp) (hr : Room k X.A.in1) (I : L2.Inv X pins σ H s) (r : Vals vs us) (h : sp vs H Q E0) :
    codeAny (model X.prog X.w) X.A.in1 (.call (.ref f) ⟨us, []⟩) (fun r s' => match r with | .ok (.ret u) => EP X pins σ Q u s' | _ => False) s := by
  have e := I.env0
  refine codeAny_mono (F X.A.in1 X.stack s H us vs Q E0 hr ⟨e.frames, e.mod, e.bs, e.bsz, e.funs, e.frf, e.hok, e.bare⟩ r h) fun res s' q => ?_
  match res, q with
  | .ok (.ret u), q => exact I.after q
theorem rc_lt {A : Around} (J : L2.Inv X pins σ H s) (hu : A.units < cLine) {x y : V} {p p' : Addr} (hp : H p = some (.tup (pl x))) (hp' : H p' = some (.tup (pl y))) : Ob.RcOp .Lt A s (.ref p) (.ref p') (pLt x y) := by
  obtain ⟨its, r1, q1, _⟩ := J.tuple (SqT.of hp)
  obtain ⟨its2, r2, q2, _⟩ := J.tuple (SqT.of hp')
  obtain ⟨w1, w2, w3, rfl, a1, a2, a3⟩ := vals_three r1
  obtain ⟨w4, w5, w6, rfl, b1, b2, b3⟩ := vals_three r2
  obtain ⟨t1, rfl⟩ := a1
  obtain ⟨t2, rfl⟩ := a2
  obtain ⟨t3, rfl⟩ := a3
  obtain ⟨u1, rfl⟩ := b1
  obtain ⟨u2, rfl⟩ := b2
  obtain ⟨u3, rfl⟩ := b3
  exact Ob.RcOp.tuples_lt (e := eq3 (p1 x) (p2 x) (p3 x) (p1 y) (p2 y) (p3 y)) (r := op3 (fun a b => decide (a < b)) sLt (p1 x) (p2 x) (p3 x) (p1 y) (p2 y) (p3 y)) q1 q2 hu (fun n h1 h2 => by
    match n with
    | 0 => exact SeqAt.EqAt.int_int _ _ _ _
    | 1 => exact SeqAt.EqAt.int_int _ _ _ _
    | 2 => exact SeqAt.EqAt.str_str _ _ _ _
    | n + 3 => exact absurd h1 (by simp)) (fun n h1 h2 _ => by
    match n with
    | 0 => exact .lt_int _ _ _ _
    | 1 => exact .lt_int _ _ _ _
    | 2 => exact fun _ _ _ _ h => PyProof.Rows.lt_str h
    | n + 3 => exact absurd h1 (by simp))
theorem pLt_trans {x y z : V} (a : pLt x y = true) (b : pLt y z = true) : pLt x z = true := by
  rw [← lt_pl] at *
  exact (listOrd itemOrd).trans (keyToks (plD x)) (keyToks (plD y)) (keyToks (plD z)) a b
theorem min_loop (F : FnR X.prog X.w X.K X.mg X.base CX0 k f spPlace) (hr : Room (k + 1) X.A) {ys : List V} {a I S : Addr} (hv : ∀ y ∈ ys, vOk y) {R : Result → Shared → Prop}
    (hIS : I ≠ S) (hI : FpOk X pins H I) (hS : FpOk X pins H S) (hz : ys.length ≤ sizeLine)
    (done : ∀ (y : V) (u : Value) (H1 : Hp) (s1 : Shared), y ∈ ys → (∀ z ∈ ys, pLt z y = false) → Same H H1 → RelV y u → L2.Inv X pins σ H1 s1 → R (.ok (.ret u)) s1) :
    ∀ (n j : Nat) (s : Shared) (H' : Hp) (b : V) (ub : Value) (p : Addr) (c : Nat) (oI : Obj), ys.length - j = n → j ≤ ys.length → Same H H' → SqL X.K H' a ys → L2.Inv X ((I, oI) :: (S, seqObj "list" #[ub, .ref p] c) :: pins) σ H' s → s.heap.IsListIter I a j →
      RelV b ub → b ∈ ys.take j → (∀ z ∈ ys.take j, pLt z b = false) → H' p = some (.tup (pl b)) → codeAny (model X.prog X.w) X.A (.builtin "min.loop" ⟨[.ref I, .ref f, .ref S], []⟩) R s := by
  intro n
  induction n with
  | zero =>
    intro j s H' b ub p c oI hn hj sm ha J hI' rb hb hmin hp
    have ej : j = ys.length := by omega
    subst ej
    rw [List.take_length] at hb hmin
    obtain ⟨its, r, pl', _⟩ := J.list ha
    have pS := J.pin (S, seqObj "list" #[ub, .ref p] c) (List.mem_append_right _ (.tail _ (.head _)))
    refine codeAny_builtin PySem.F.entry_min_loop ?_
    show wpAny _ X.A.in1 (Builtin.«min.loop» _) _ _ _
    unfold Builtin.«min.loop»
    show wpAny _ _ (seqItems? (Value.ref S) >>= _) _ _ _
    refine wpAny_bind ?_
    rw [seqItems?.eq_1]
    refine wpAny_bind (wpAny_load pS.1 ?_)
    show wpAny _ _ (pure (some #[ub, .ref p])) _ _ _
    refine wpAny_pure ?_
    refine wpAny_bind (wpAny_tryCatch (wpAny_pyNext_list_end hr.hd hI' pl'.isList (by rw [List.getElem?_toArray]; exact List.getElem?_eq_none (by rw [← r.length]; exact Nat.le_refl _)) (fun h' ext => ?_)))
    show wpAny _ _ (updateSeq S (fun _ => #[]) >>= _) _ _ _
    have gS := ext _ _ hIS.symm pS.1
    refine wpAny_bind (wpAny_updateSeq gS rfl ?_ (by show 2 ≤ sizeLine; decide) (by show 0 ≤ sizeLine + 1; decide))
    refine wpAny_bind (wpAny_letGo ?_)
    show wpAny _ _ (ret ub) _ _ _
    refine wpAny_pure ?_
    have pI := J.pin (I, oI) (List.mem_append_right _ (.head _))
    have J0 : L2.Inv X pins σ H' s := J.pins_of fun q hq => J.pin q (List.mem_append_right _ (.tail _ (.tail _ hq)))
    refine done b ub H' _ hb hmin sm rb (J0.turnedL (s := s) (ch := [I, S]) (t' := s.toks) (h' := h'.update S (Obj.mapSeq fun _ => #[])) (fun q o nq e => ?_) (fun q hq => ?_))
    · rw [Heap.get?_update_other _ _ (fun e => nq (by rw [← e]; exact .tail _ (.head _)))]
      exact ext _ _ (fun e => nq (by rw [e]; exact .head _)) e
    · cases hq with
      | head => exact ⟨pI.2.1, hI.2⟩
      | tail _ hq => cases hq with
        | head => exact ⟨pS.2.1, hS.2⟩
        | tail _ hq => cases hq
  | succ n ih =>
    intro j s H' b ub p c oI hn hj sm ha J hI' rb hb hmin hp
    obtain ⟨its, r, pl', _⟩ := J.list ha
    have hjl : j < ys.length := by omega
    obtain ⟨y, hy⟩ : ∃ y, ys[j]? = some y := ⟨_, List.getElem?_eq_getElem hjl⟩
    obtain ⟨u, hu, ru⟩ := r.get hy
    have hyv := hv y (List.mem_of_getElem? hy)
    have pS := J.pin (S, seqObj "list" #[ub, .ref p] c) (List.mem_append_right _ (.tail _ (.head _)))
    have pI := J.pin (I, oI) (List.mem_append_right _ (.head _))
    refine codeAny_builtin PySem.F.entry_min_loop ?_
    show wpAny _ X.A.in1 (Builtin.«min.loop» _) _ _ _
    unfold Builtin.«min.loop»
    show wpAny _ _ (seqItems? (Value.ref S) >>= _) _ _ _
    refine wpAny_bind ?_
    rw [seqItems?.eq_1]
    refine wpAny_bind (wpAny_load pS.1 ?_)
    show wpAny _ _ (pure (some #[ub, .ref p])) _ _ _
    refine wpAny_pure ?_
    refine wpAny_bind (wpAny_tryCatch (wpAny_pyNext_list_item hI' pl'.isList (by rw [List.getElem?_toArray]; exact hu) (fun h' hit same => ?_)))
    obtain ⟨oI', gI', cI', dI'⟩ := hit
    have JS : L2.Inv X ((S, seqObj "list" #[ub, .ref p] c) :: pins) σ H' s := J.pins_of fun q hq => J.pin q (List.mem_append_right _ (by
      rcases List.mem_append.mp (show q ∈ [] ++ ((S, seqObj "list" #[ub, .ref p] c) :: pins) from hq) with hq | hq
      · cases hq
      · exact .tail _ hq))
    have fI : FpOk X ((S, seqObj "list" #[ub, .ref p] c) :: pins) H' I := ⟨pI.2.1, hI.2.1, hI.2.2.1, hI.2.2.2.1, hI.2.2.2.2.1, fun q hq => by
      rcases List.mem_append.mp hq with hq | hq
      · exact hI.2.2.2.2.2 q (List.mem_append_left _ hq)
      · cases hq with
        | head => exact hIS.symm
        | tail _ hq => exact hI.2.2.2.2.2 q (List.mem_append_right _ hq)⟩
    have J1 := JS.turnedL (ch := [I]) (t' := s.toks) (h' := h') (fun q o nq e => by rw [same.2 q (fun e => nq (by rw [e]; exact .head _))]; exact e) (fun q hq => by
      cases hq with
      | head => exact fI
      | tail _ h => cases h)
    have J2 := pins_cons (p := (I, oI')) J1 gI' fI (fun v e => by rw [dI'] at e; cases e)
    have key := run_key1 (Q := fun v H2 => ∃ p2, v = .ref p2 ∧ H' p2 = none ∧ H2 = L2.upd H' p2 (.tup (pl y))) F (room_in1 hr) J2 (.cons ru .nil) ⟨y, rfl, hyv, fun p2 hp2 => ⟨p2, rfl, hp2, rfl⟩⟩
    show wpAny _ _ (tryCatch (holding [u] (call (.ref f) [u])) _ >>= _) _ _ _
    refine wpAny_bind (wpAny_tryCatch (wpAny_holding (wpAny_call (codeAny_mono key fun res s2 hq => ?_))))
    match res, hq with
    | .ok (.ret w), ⟨v, H2, J3, rv, p2, ev, hn2, eH⟩ =>
    subst ev eH
    cases rv
    have hp2 : (L2.upd H' p2 (.tup (pl y))) p2 = some (.tup (pl y)) := upd_same
    have hpb : (L2.upd H' p2 (.tup (pl y))) p = some (.tup (pl b)) := same_new hn2 _ _ _ hp
    show wpAny _ _ (tryCatch (holding [u, .ref p2] (richCompare .Lt (.ref p2) (.ref p) >>= _)) _ >>= _) _ _ _
    refine wpAny_bind (wpAny_tryCatch (wpAny_holding (wpAny_bind (rc_lt J3 (by have := hr.un; show X.A.units + 1 < _; omega) hp2 hpb _ _ _ _ ?_))))
    refine wpAny_bind (wpAny_holding (wpAny_truthy_bool ?_))
    refine wpAny_bind (wpAny_letGo ?_)
    refine wpAny_pure ?_
    have sm2 := sm.trans (same_new hn2 (.tup (pl y)))
    have ha2 : SqL X.K (L2.upd H' p2 (.tup (pl y))) a ys := Same.seq (same_new hn2 _) ha
    have tk : ys.take (j + 1) = ys.take j ++ [y] := by rw [List.take_add_one, hy]; rfl
    have qS := J3.pin (S, seqObj "list" #[ub, .ref p] c) (List.mem_append_right _ (.tail _ (.head _)))
    have qI := J3.pin (I, oI') (List.mem_append_right _ (.head _))
    cases hg : pLt y b with
    | true =>
      rw [if_pos rfl]
      refine wpAny_bind (wpAny_updateSeq qS.1 rfl ?_ (by show 2 ≤ sizeLine; decide) (by show 2 ≤ sizeLine + 1; decide))
      refine wpAny_bind (wpAny_letGo ?_)
      refine wpAny_pure ⟨rfl, ?_⟩
      have J4 : L2.Inv X pins σ _ s2 := J3.pins_of fun q hq => J3.pin q (List.mem_append_right _ (.tail _ (.tail _ hq)))
      have J5 := J4.turnedL (ch := [S]) (t' := s2.toks) (h' := s2.heap.update S (Obj.mapSeq fun _ => #[u, .ref p2])) (fun q o nq e => by rw [Heap.get?_update_other _ _ (fun e => nq (by rw [← e]; exact .head _))]; exact e) (fun q hq => by
        cases hq with
        | head => exact ⟨qS.2.1, hS.2⟩
        | tail _ h => cases h)
      have J6 := pins_cons (p := (S, seqObj "list" #[u, .ref p2] (if (#[u, Value.ref p2].size == #[ub, Value.ref p].size) = true then c else c + 1))) J5 (get?_update_seq qS.1 (fun _ => #[u, .ref p2])) ⟨qS.2.1, hS.2⟩ (fun v e => nomatch e)
      have gI6 : (s2.heap.update S (Obj.mapSeq fun _ => #[u, .ref p2])).get? I = some oI' := by rw [Heap.get?_update_other _ _ hIS.symm]; exact qI.1
      have J7 := pins_cons (p := (I, oI')) J6 gI6 ⟨qI.2.1, hI.2.1, hI.2.2.1, hI.2.2.2.1, hI.2.2.2.2.1, fun q hq => by
        rcases List.mem_append.mp hq with hq | hq
        · exact hI.2.2.2.2.2 q (List.mem_append_left _ hq)
        · cases hq with
          | head => exact hIS.symm
          | tail _ hq => exact hI.2.2.2.2.2 q (List.mem_append_right _ hq)⟩ (fun v e => by rw [dI'] at e; cases e)
      refine ih (j + 1) _ _ y u p2 _ oI' (by omega) (by omega) sm2 ha2 J7 ⟨oI', gI6, cI', dI'⟩ ru (by rw [tk]; exact List.mem_append_right _ (.head _)) (fun z hz => ?_) hp2
      rw [tk] at hz
      rcases List.mem_append.mp hz with hz | hz
      · have h0 := hmin z hz
        cases e : pLt z y with
        | false => rfl
        | true =>
          rw [pLt_trans e hg] at h0
          cases h0
      · rw [List.mem_singleton.mp hz, ← lt_pl]
        exact (listOrd itemOrd).irrefl (keyToks (plD y))
    | false =>
      rw [if_neg Bool.false_ne_true]
      refine wpAny_bind (wpAny_letGo ?_)
      refine wpAny_pure ⟨rfl, ?_⟩
      refine ih (j + 1) _ _ b ub p c oI' (by omega) (by omega) sm2 ha2 J3 ⟨oI', qI.1, cI', dI'⟩ rb (by rw [tk]; exact List.mem_append_left _ hb) (fun z hz => ?_) hpb
      rw [tk] at hz
      rcases List.mem_append.mp hz with hz | hz
      · exact hmin z hz
      · rw [List.mem_singleton.mp hz]
        exact hg
theorem min_first {ys : List V} {a I S : Addr} {s : Shared} {H' : Hp} {oI : Obj} (F : FnR X.prog X.w X.K X.mg X.base CX0 k f spPlace) (hr : Room (k + 1) X.A) (hv : ∀ y ∈ ys, vOk y) {R : Result → Shared → Prop} (h0 : 0 < ys.length)
    (hIS : I ≠ S) (hI : FpOk X pins H' I) (hS : FpOk X pins H' S) (hz : ys.length ≤ sizeLine)
    (done : ∀ (y : V) (u : Value) (H1 : Hp) (s1 : Shared), y ∈ ys → (∀ z ∈ ys, pLt z y = false) → Same H' H1 → RelV y u → L2.Inv X pins σ H1 s1 → R (.ok (.ret u)) s1)
    (ha : SqL X.K H' a ys) (J : L2.Inv X ((I, oI) :: (S, seqObj "list" #[] 0) :: pins) σ H' s) (hI' : s.heap.IsListIter I a 0) : codeAny (model X.prog X.w) X.A (.builtin "min.loop" ⟨[.ref I, .ref f, .ref S], []⟩) R s := by
  obtain ⟨its, r, pl', _⟩ := J.list ha
  obtain ⟨y, hy⟩ : ∃ y, ys[0]? = some y := ⟨_, List.getElem?_eq_getElem h0⟩
  obtain ⟨u, hu, ru⟩ := r.get hy
  have hyv := hv y (List.mem_of_getElem? hy)
  have pS := J.pin (S, seqObj "list" #[] 0) (List.mem_append_right _ (.tail _ (.head _)))
  have pI := J.pin (I, oI) (List.mem_append_right _ (.head _))
  refine codeAny_builtin PySem.F.entry_min_loop ?_
  show wpAny _ X.A.in1 (Builtin.«min.loop» _) _ _ _
  unfold Builtin.«min.loop»
  show wpAny _ _ (seqItems? (Value.ref S) >>= _) _ _ _
  refine wpAny_bind ?_
  rw [seqItems?.eq_1]
  refine wpAny_bind (wpAny_load pS.1 ?_)
  show wpAny _ _ (pure (some #[])) _ _ _
  refine wpAny_pure ?_
  refine wpAny_bind (wpAny_tryCatch (wpAny_pyNext_list_item hI' pl'.isList (by rw [List.getElem?_toArray]; exact hu) (fun h' hit same => ?_)))
  obtain ⟨oI', gI', cI', dI'⟩ := hit
  have JS : L2.Inv X ((S, seqObj "list" #[] 0) :: pins) σ H' s := J.pins_of fun q hq => J.pin q (List.mem_append_right _ (.tail _ hq))
  have fI : ∀ oS, FpOk X ((S, oS) :: pins) H' I := fun oS => ⟨pI.2.1, hI.2.1, hI.2.2.1, hI.2.2.2.1, hI.2.2.2.2.1, fun q hq => by
    rcases List.mem_append.mp hq with hq | hq
    · exact hI.2.2.2.2.2 q (List.mem_append_left _ hq)
    · cases hq with
      | head => exact hIS.symm
      | tail _ hq => exact hI.2.2.2.2.2 q (List.mem_append_right _ hq)⟩
  have J1 := JS.turnedL (ch := [I]) (t' := s.toks) (h' := h') (fun q o nq e => by rw [same.2 q (fun e => nq (by rw [e]; exact .head _))]; exact e) (fun q hq => by
    cases hq with
    | head => exact fI _
    | tail _ h => cases h)
  have J2 := pins_cons (p := (I, oI')) J1 gI' (fI _) (fun v e => by rw [dI'] at e; cases e)
  have key := run_key1 (Q := fun v H2 => ∃ p2, v = .ref p2 ∧ H' p2 = none ∧ H2 = L2.upd H' p2 (.tup (pl y))) F (room_in1 hr) J2 (.cons ru .nil) ⟨y, rfl, hyv, fun p2 hp2 => ⟨p2, rfl, hp2, rfl⟩⟩
  show wpAny _ _ (tryCatch (holding [u] (call (.ref f) [u])) _ >>= _) _ _ _
  refine wpAny_bind (wpAny_tryCatch (wpAny_holding (wpAny_call (codeAny_mono key fun res s2 hq => ?_))))
  match res, hq with
  | .ok (.ret w), ⟨v, H2, J3, rv, p2, ev, hn2, eH⟩ =>
  subst ev eH
  cases rv
  have hp2 : (L2.upd H' p2 (.tup (pl y))) p2 = some (.tup (pl y)) := upd_same
  have qS := J3.pin (S, seqObj "list" #[] 0) (List.mem_append_right _ (.tail _ (.head _)))
  have qI := J3.pin (I, oI') (List.mem_append_right _ (.head _))
  show wpAny _ _ (updateSeq S (fun _ => #[u, .ref p2]) >>= _) _ _ _
  refine wpAny_bind (wpAny_updateSeq qS.1 rfl ?_ (by show 0 ≤ sizeLine; decide) (by show 2 ≤ sizeLine + 1; decide))
  refine wpAny_pure ⟨rfl, ?_⟩
  have J4 : L2.Inv X pins σ _ s2 := J3.pins_of fun q hq => J3.pin q (List.mem_append_right _ (.tail _ (.tail _ hq)))
  have J5 := J4.turnedL (ch := [S]) (t' := s2.toks) (h' := s2.heap.update S (Obj.mapSeq fun _ => #[u, .ref p2])) (fun q o nq e => by rw [Heap.get?_update_other _ _ (fun e => nq (by rw [← e]; exact .head _))]; exact e) (fun q hq => by
    cases hq with
    | head => exact ⟨qS.2.1, hS.2⟩
    | tail _ h => cases h)
  have J6 := pins_cons (p := (S, seqObj "list" #[u, .ref p2] (if (#[u, Value.ref p2].size == (#[] : Array Value).size) = true then 0 else 0 + 1))) J5 (get?_update_seq qS.1 (fun _ => #[u, .ref p2])) ⟨qS.2.1, hS.2⟩ (fun v e => nomatch e)
  have gI6 : (s2.heap.update S (Obj.mapSeq fun _ => #[u, .ref p2])).get? I = some oI' := by rw [Heap.get?_update_other _ _ hIS.symm]; exact qI.1
  have J7 := pins_cons (p := (I, oI')) J6 gI6 ⟨qI.2.1, (fI _).2⟩ (fun v e => by rw [dI'] at e; cases e)
  have tk : ys.take 1 = [y] := by rw [List.take_add_one, hy]; rfl
  have irr : pLt y y = false := by rw [← lt_pl]; exact (listOrd itemOrd).irrefl (keyToks (plD y))
  exact min_loop (H := H') F hr hv hIS hI hS hz done _ 1 _ _ y u p2 _ oI' rfl h0 (same_new hn2 _) (Same.seq (same_new hn2 _) ha) J7 ⟨oI', gI6, cI', dI'⟩ ru (by rw [tk]; exact .head _) (fun z hz' => by rw [tk] at hz'; rw [List.mem_singleton.mp hz']; exact irr) hp2
def rMinK (K : PySem.W.Frag) (b : Addr) : List V → List V → Hp → VK → Prop := fun vs zs H Q => ∃ (a : Addr) (ys : List V), vs = [.ref a] ∧ zs = [.ref b] ∧ SqL K H a ys ∧ 0 < ys.length ∧ (∀ y ∈ ys, vOk y) ∧
  ∀ H1 y, Same H H1 → y ∈ ys → (∀ z ∈ ys, pLt z y = false) → Q y H1
theorem cr_minK (F : FnR X.prog X.w X.K X.mg X.base CX0 k f spPlace) (hr : Room (k + 1) X.A) : CallRK X (.builtin "min") ["key"] (rMinK X.K f) := by
  intro pins s σ H xs zs us ws Q I rx rz h
  obtain ⟨a, ys, rfl, rfl, ha, h0, hv, q⟩ := h
  have e1 := rx.ref1
  have e2 := rz.ref1
  subst e1 e2
  show wpAny _ _ (call (.builtin "min") [.ref a] [("key", .ref f)]) _ _ _
  obtain ⟨its, r, pl', hz⟩ := I.list ha
  refine kmk_tree (by rfl) (by decide +kernel) PySem.F.entry_min (kmk_min_key _ _) ?_
  unfold Builtin.min
  show wpAny _ _ (Builtin.Builtins.bindParams "min" ["key", "default"] 0 { kw := [("key", .ref f)] } >>= _) _ _ _
  rw [show Builtin.Builtins.bindParams "min" ["key", "default"] 0 { kw := [("key", .ref f)] } = pure [some (.ref f), none] from rfl]
  refine wpAny_bind (wpAny_pure ?_)
  show wpAny _ _ (pyIter (.ref a) >>= _) _ _ _
  refine wpAny_bind (wpAny_pyIter_list pl'.isList ?_)
  refine wpAny_bind (wpAny_newList ?_ (Nat.zero_le _))
  refine wpAny_pure ⟨rfl, ?_⟩
  dsimp only
  generalize hh1 : s.heap.push { cls := Value.type "list_iterator", data := Data.fields #[Value.ref a, Value.int 0 0] } = h1
  have g1 : h1.get? s.heap.objs.size = some { cls := Value.type "list_iterator", data := Data.fields #[Value.ref a, Value.int 0 0] } := by rw [← hh1]; exact Heap.get?_push_size _ rfl
  have s1 : h1.objs.size = s.heap.objs.size + 1 := by rw [← hh1]; exact Array.size_push _
  have k1 : ∀ b o, s.heap.get? b = some o → h1.get? b = some o := fun b o e => by rw [← hh1]; exact Heap.get?_push_of_some _ e
  have k2 : ∀ b o, h1.get? b = some o → (h1.push { cls := Value.type "list", data := Data.seq (#[] : Array Value) }).get? b = some o := fun b o e => Heap.get?_push_of_some _ e
  have I2 := I.kept (h' := h1.push { cls := Value.type "list", data := Data.seq (#[] : Array Value) }) (t' := s.toks) (fun b o e => k2 b o (k1 b o e))
  have hI : FpOk X pins H s.heap.objs.size := I.fpOk (Nat.le_refl _) (I.hok.fresh (Nat.le_refl _))
  have hS : FpOk X pins H h1.objs.size := I.fpOk (by show s.heap.objs.size ≤ _; omega) (I.hok.fresh (by show s.heap.objs.size ≤ _; omega))
  have ne : s.heap.objs.size ≠ h1.objs.size := by rw [s1]; exact Nat.ne_of_lt (Nat.lt_succ_self _)
  have J1 := pins_cons (p := (h1.objs.size, seqObj "list" #[] 0)) I2 (Heap.get?_push_size _ rfl) hS (fun v e => nomatch e)
  have J2 := pins_cons (p := (s.heap.objs.size, { cls := Value.type "list_iterator", data := Data.fields #[Value.ref a, Value.int 0 0] })) J1 (k2 _ _ g1) ⟨hI.1, hI.2.1, hI.2.2.1, hI.2.2.2.1, hI.2.2.2.2.1, fun q hq => by
    rcases List.mem_append.mp hq with hq | hq
    · exact hI.2.2.2.2.2 q (List.mem_append_left _ hq)
    · cases hq with
      | head => exact ne.symm
      | tail _ hq => exact hI.2.2.2.2.2 q (List.mem_append_right _ hq)⟩ (fun v e => nomatch e)
  exact min_first F hr hv h0 ne hI hS hz (fun y u H1 s1 hy hm sm ru J => ⟨y, H1, J, ru, q H1 y sm hy hm⟩) ha J2 ⟨_, k2 _ _ g1, rfl, rfl⟩
theorem cmp_gt (x y : V) : cmp3 (fun a b => decide (b < a)) (fun x y => sLt y x) false (p1 x) (p2 x) (p3 x) (p1 y) (p2 y) (p3 y) = pLt y x := by
  rw [pLt_if]
  unfold cmp3
  simp only [Ob.lexAt, eq3, op3]
  rw [BEq.comm (a := p1 x), BEq.comm (a := p2 x), BEq.comm (a := p3 x)]
def pGt (x y : V) : Bool := pLt y x
theorem rc_gt {A : Around} (J : L2.Inv X pins σ H s) (hu : A.units < cLine) {x y : V} {p p' : Addr} (hp : H p = some (.tup (pl x))) (hp' : H p' = some (.tup (pl y))) : Ob.RcOp .Gt A s (.ref p) (.ref p') (pGt x y) := by
  rw [show pGt x y = pLt y x from rfl, ← cmp_gt]
  obtain ⟨its, r1, q1, _⟩ := J.tuple (SqT.of hp)
  obtain ⟨its2, r2, q2, _⟩ := J.tuple (SqT.of hp')
  obtain ⟨w1, w2, w3, rfl, a1, a2, a3⟩ := vals_three r1
  obtain ⟨w4, w5, w6, rfl, b1, b2, b3⟩ := vals_three r2
  obtain ⟨t1, rfl⟩ := a1
  obtain ⟨t2, rfl⟩ := a2
  obtain ⟨t3, rfl⟩ := a3
  obtain ⟨u1, rfl⟩ := b1
  obtain ⟨u2, rfl⟩ := b2
  obtain ⟨u3, rfl⟩ := b3
  exact Ob.RcOp.tuples_gt (e := eq3 (p1 x) (p2 x) (p3 x) (p1 y) (p2 y) (p3 y)) (r := op3 (fun a b => decide (b < a)) (fun x y => sLt y x) (p1 x) (p2 x) (p3 x) (p1 y) (p2 y) (p3 y)) q1 q2 hu (fun n h1 h2 => by
    match n with
    | 0 => exact SeqAt.EqAt.int_int _ _ _ _
    | 1 => exact SeqAt.EqAt.int_int _ _ _ _
    | 2 => exact SeqAt.EqAt.str_str _ _ _ _
    | n + 3 => exact absurd h1 (by simp)) (fun n h1 h2 _ => by
    match n with
    | 0 => exact .gt_int _ _ _ _
    | 1 => exact .gt_int _ _ _ _
    | 2 => exact fun _ _ _ _ h => PySem.P.gt_str h
    | n + 3 => exact absurd h1 (by simp))
theorem pGt_trans {x y z : V} (a : pGt x y = true) (b : pGt y z = true) : pGt x z = true := pLt_trans b a
theorem max_loop (F : FnR X.prog X.w X.K X.mg X.base CX0 k f spPlace) (hr : Room (k + 1) X.A) {ys : List V} {a I S : Addr} (hv : ∀ y ∈ ys, vOk y) {R : Result → Shared → Prop}
    (hIS : I ≠ S) (hI : FpOk X pins H I) (hS : FpOk X pins H S) (hz : ys.length ≤ sizeLine)
    (done : ∀ (y : V) (u : Value) (H1 : Hp) (s1 : Shared), y ∈ ys → (∀ z ∈ ys, pGt z y = false) → Same H H1 → RelV y u → L2.Inv X pins σ H1 s1 → R (.ok (.ret u)) s1) :
    ∀ (n j : Nat) (s : Shared) (H' : Hp) (b : V) (ub : Value) (p : Addr) (c : Nat) (oI : Obj), ys.length - j = n → j ≤ ys.length → Same H H' → SqL X.K H' a ys → L2.Inv X ((I, oI) :: (S, seqObj "list" #[ub, .ref p] c) :: pins) σ H' s → s.heap.IsListIter I a j →
      RelV b ub → b ∈ ys.take j → (∀ z ∈ ys.take j, pGt z b = false) → H' p = some (.tup (pl b)) → codeAny (model X.prog X.w) X.A (.builtin "max.loop" ⟨[.ref I, .ref f, .ref S], []⟩) R s := by
  intro n
  induction n with
  | zero =>
    intro j s H' b ub p c oI hn hj sm ha J hI' rb hb hmax hp
    have ej : j = ys.length := by omega
    subst ej
    rw [List.take_length] at hb hmax
    obtain ⟨its, r, pl', _⟩ := J.list ha
    have pS := J.pin (S, seqObj "list" #[ub, .ref p] c) (List.mem_append_right _ (.tail _ (.head _)))
    refine codeAny_builtin PySem.F.entry_max_loop ?_
    show wpAny _ X.A.in1 (Builtin.«max.loop» _) _ _ _
    unfold Builtin.«max.loop»
    show wpAny _ _ (seqItems? (Value.ref S) >>= _) _ _ _
    refine wpAny_bind ?_
    rw [seqItems?.eq_1]
    refine wpAny_bind (wpAny_load pS.1 ?_)
    show wpAny _ _ (pure (some #[ub, .ref p])) _ _ _
    refine wpAny_pure ?_
    refine wpAny_bind (wpAny_tryCatch (wpAny_pyNext_list_end hr.hd hI' pl'.isList (by rw [List.getElem?_toArray]; exact List.getElem?_eq_none (by rw [← r.length]; exact Nat.le_refl _)) (fun h' ext => ?_)))
    show wpAny _ _ (updateSeq S (fun _ => #[]) >>= _) _ _ _
    have gS := ext _ _ hIS.symm pS.1
    refine wpAny_bind (wpAny_updateSeq gS rfl ?_ (by show 2 ≤ sizeLine; decide) (by show 0 ≤ sizeLine + 1; decide))
    refine wpAny_bind (wpAny_letGo ?_)
    show wpAny _ _ (ret ub) _ _ _
    refine wpAny_pure ?_
    have pI := J.pin (I, oI) (List.mem_append_right _ (.head _))
    have J0 : L2.Inv X pins σ H' s := J.pins_of fun q hq => J.pin q (List.mem_append_right _ (.tail _ (.tail _ hq)))
    refine done b ub H' _ hb hmax sm rb (J0.turnedL (s := s) (ch := [I, S]) (t' := s.toks) (h' := h'.update S (Obj.mapSeq fun _ => #[])) (fun q o nq e => ?_) (fun q hq => ?_))
    · rw [Heap.get?_update_other _ _ (fun e => nq (by rw [← e]; exact .tail _ (.head _)))]
      exact ext _ _ (fun e => nq (by rw [e]; exact .head _)) e
    · cases hq with
      | head => exact ⟨pI.2.1, hI.2⟩
      | tail _ hq => cases hq with
        | head => exact ⟨pS.2.1, hS.2⟩
        | tail _ hq => cases hq
  | succ n ih =>
    intro j s H' b ub p c oI hn hj sm ha J hI' rb hb hmax hp
    obtain ⟨its, r, pl', _⟩ := J.list ha
    have hjl : j < ys.length := by omega
    obtain ⟨y, hy⟩ : ∃ y, ys[j]? = some y := ⟨_, List.getElem?_eq_getElem hjl⟩
    obtain ⟨u, hu, ru⟩ := r.get hy
    have hyv := hv y (List.mem_of_getElem? hy)
    have pS := J.pin (S, seqObj "list" #[ub, .ref p] c) (List.mem_append_right _ (.tail _ (.head _)))
    have pI := J.pin (I, oI) (List.mem_append_right _ (.head _))
    refine codeAny_builtin PySem.F.entry_max_loop ?_
    show wpAny _ X.A.in1 (Builtin.«max.loop» _) _ _ _
    unfold Builtin.«max.loop»
    show wpAny _ _ (seqItems? (Value.ref S) >>= _) _ _ _
    refine wpAny_bind ?_
    rw [seqItems?.eq_1]
    refine wpAny_bind (wpAny_load pS.1 ?_)
    show wpAny _ _ (pure (some #[ub, .ref p])) _ _ _
    refine wpAny_pure ?_
    refine wpAny_bind (wpAny_tryCatch (wpAny_pyNext_list_item hI' pl'.isList (by rw [List.getElem?_toArray]; exact hu) (fun h' hit same => ?_)))
    obtain ⟨oI', gI', cI', dI'⟩ := hit
    have JS : L2.Inv X ((S, seqObj "list" #[ub, .ref p] c) :: pins) σ H' s := J.pins_of fun q hq => J.pin q (List.mem_append_right _ (by
      rcases List.mem_append.mp (show q ∈ [] ++ ((S, seqObj "list" #[ub, .ref p] c) :: pins) from hq) with hq | hq
      · cases hq
      · exact .tail _ hq))
    have fI : FpOk X ((S, seqObj "list" #[ub, .ref p] c) :: pins) H' I := ⟨pI.2.1, hI.2.1, hI.2.2.1, hI.2.2.2.1, hI.2.2.2.2.1, fun q hq => by
      rcases List.mem_append.mp hq with hq | hq
      · exact hI.2.2.2.2.2 q (List.mem_append_left _ hq)
      · cases hq with
        | head => exact hIS.symm
        | tail _ hq => exact hI.2.2.2.2.2 q (List.mem_append_right _ hq)⟩
    have J1 := JS.turnedL (ch := [I]) (t' := s.toks) (h' := h') (fun q o nq e => by rw [same.2 q (fun e => nq (by rw [e]; exact .head _))]; exact e) (fun q hq => by
      cases hq with
      | head => exact fI
      | tail _ h => cases h)
    have J2 := pins_cons (p := (I, oI')) J1 gI' fI (fun v e => by rw [dI'] at e; cases e)
    have key := run_key1 (Q := fun v H2 => ∃ p2, v = .ref p2 ∧ H' p2 = none ∧ H2 = L2.upd H' p2 (.tup (pl y))) F (room_in1 hr) J2 (.cons ru .nil) ⟨y, rfl, hyv, fun p2 hp2 => ⟨p2, rfl, hp2, rfl⟩⟩
    show wpAny _ _ (tryCatch (holding [u] (call (.ref f) [u])) _ >>= _) _ _ _
    refine wpAny_bind (wpAny_tryCatch (wpAny_holding (wpAny_call (codeAny_mono key fun res s2 hq => ?_))))
    match res, hq with
    | .ok (.ret w), ⟨v, H2, J3, rv, p2, ev, hn2, eH⟩ =>
    subst ev eH
    cases rv
    have hp2 : (L2.upd H' p2 (.tup (pl y))) p2 = some (.tup (pl y)) := upd_same
    have hpb : (L2.upd H' p2 (.tup (pl y))) p = some (.tup (pl b)) := same_new hn2 _ _ _ hp
    show wpAny _ _ (tryCatch (holding [u, .ref p2] (richCompare .Gt (.ref p2) (.ref p) >>= _)) _ >>= _) _ _ _
    refine wpAny_bind (wpAny_tryCatch (wpAny_holding (wpAny_bind (rc_gt J3 (by have := hr.un; show X.A.units + 1 < _; omega) hp2 hpb _ _ _ _ ?_))))
    refine wpAny_bind (wpAny_holding (wpAny_truthy_bool ?_))
    refine wpAny_bind (wpAny_letGo ?_)
    refine wpAny_pure ?_
    have sm2 := sm.trans (same_new hn2 (.tup (pl y)))
    have ha2 : SqL X.K (L2.upd H' p2 (.tup (pl y))) a ys := Same.seq (same_new hn2 _) ha
    have tk : ys.take (j + 1) = ys.take j ++ [y] := by rw [List.take_add_one, hy]; rfl
    have qS := J3.pin (S, seqObj "list" #[ub, .ref p] c) (List.mem_append_right _ (.tail _ (.head _)))
    have qI := J3.pin (I, oI') (List.mem_append_right _ (.head _))
    cases hg : pGt y b with
    | true =>
      rw [if_pos rfl]
      refine wpAny_bind (wpAny_updateSeq qS.1 rfl ?_ (by show 2 ≤ sizeLine; decide) (by show 2 ≤ sizeLine + 1; decide))
      refine wpAny_bind (wpAny_letGo ?_)
      refine wpAny_pure ⟨rfl, ?_⟩
      have J4 : L2.Inv X pins σ _ s2 := J3.pins_of fun q hq => J3.pin q (List.mem_append_right _ (.tail _ (.tail _ hq)))
      have J5 := J4.turnedL (ch := [S]) (t' := s2.toks) (h' := s2.heap.update S (Obj.mapSeq fun _ => #[u, .ref p2])) (fun q o nq e => by rw [Heap.get?_update_other _ _ (fun e => nq (by rw [← e]; exact .head _))]; exact e) (fun q hq => by
        cases hq with
        | head => exact ⟨qS.2.1, hS.2⟩
        | tail _ h => cases h)
      have J6 := pins_cons (p := (S, seqObj "list" #[u, .ref p2] (if (#[u, Value.ref p2].size == #[ub, Value.ref p].size) = true then c else c + 1))) J5 (get?_update_seq qS.1 (fun _ => #[u, .ref p2])) ⟨qS.2.1, hS.2⟩ (fun v e => nomatch e)
      have gI6 : (s2.heap.update S (Obj.mapSeq fun _ => #[u, .ref p2])).get? I = some oI' := by rw [Heap.get?_update_other _ _ hIS.symm]; exact qI.1
      have J7 := pins_cons (p := (I, oI')) J6 gI6 ⟨qI.2.1, hI.2.1, hI.2.2.1, hI.2.2.2.1, hI.2.2.2.2.1, fun q hq => by
        rcases List.mem_append.mp hq with hq | hq
        · exact hI.2.2.2.2.2 q (List.mem_append_left _ hq)
        · cases hq with
          | head => exact hIS.symm
          | tail _ hq => exact hI.2.2.2.2.2 q (List.mem_append_right _ hq)⟩ (fun v e => by rw [dI'] at e; cases e)
      refine ih (j + 1) _ _ y u p2 _ oI' (by omega) (by omega) sm2 ha2 J7 ⟨oI', gI6, cI', dI'⟩ ru (by rw [tk]; exact List.mem_append_right _ (.head _)) (fun z hz => ?_) hp2
      rw [tk] at hz
      rcases List.mem_append.mp hz with hz | hz
      · have h0 := hmax z hz
        cases e : pGt z y with
        | false => rfl
        | true =>
          rw [pGt_trans e hg] at h0
          cases h0
      · rw [List.mem_singleton.mp hz]
        unfold pGt
        rw [← lt_pl]
        exact (listOrd itemOrd).irrefl (keyToks (plD y))
    | false =>
      rw [if_neg Bool.false_ne_true]
      refine wpAny_bind (wpAny_letGo ?_)
      refine wpAny_pure ⟨rfl, ?_⟩
      refine ih (j + 1) _ _ b ub p c oI' (by omega) (by omega) sm2 ha2 J3 ⟨oI', qI.1, cI', dI'⟩ rb (by rw [tk]; exact List.mem_append_left _ hb) (fun z hz => ?_) hpb
      rw [tk] at hz
      rcases List.mem_append.mp hz with hz | hz
      · exact hmax z hz
      · rw [List.mem_singleton.mp hz]
        exact hg
theorem max_first {ys : List V} {a I S : Addr} {s : Shared} {H' : Hp} {oI : Obj} (F : FnR X.prog X.w X.K X.mg X.base CX0 k f spPlace) (hr : Room (k + 1) X.A) (hv : ∀ y ∈ ys, vOk y) {R : Result → Shared → Prop} (h0 : 0 < ys.length)
    (hIS : I ≠ S) (hI : FpOk X pins H' I) (hS : FpOk X pins H' S) (hz : ys.length ≤ sizeLine)
    (done : ∀ (y : V) (u : Value) (H1 : Hp) (s1 : Shared), y ∈ ys → (∀ z ∈ ys, pGt z y = false) → Same H' H1 → RelV y u → L2.Inv X pins σ H1 s1 → R (.ok (.ret u)) s1)
    (ha : SqL X.K H' a ys) (J : L2.Inv X ((I, oI) :: (S, seqObj "list" #[] 0) :: pins) σ H' s) (hI' : s.heap.IsListIter I a 0) : codeAny (model X.prog X.w) X.A (.builtin "max.loop" ⟨[.ref I, .ref f, .ref S], []⟩) R s := by
  obtain ⟨its, r, pl', _⟩ := J.list ha
  obtain ⟨y, hy⟩ : ∃ y, ys[0]? = some y := ⟨_, List.getElem?_eq_getElem h0⟩
  obtain ⟨u, hu, ru⟩ := r.get hy
  have hyv := hv y (List.mem_of_getElem? hy)
  have pS := J.pin (S, seqObj "list" #[] 0) (List.mem_append_right _ (.tail _ (.head _)))
  have pI := J.pin (I, oI) (List.mem_append_right _ (.head _))
  refine codeAny_builtin PySem.F.entry_max_loop ?_
  show wpAny _ X.A.in1 (Builtin.«max.loop» _) _ _ _
  unfold Builtin.«max.loop»
  show wpAny _ _ (seqItems? (Value.ref S) >>= _) _ _ _
  refine wpAny_bind ?_
  rw [seqItems?.eq_1]
  refine wpAny_bind (wpAny_load pS.1 ?_)
  show wpAny _ _ (pure (some #[])) _ _ _
  refine wpAny_pure ?_
  refine wpAny_bind (wpAny_tryCatch (wpAny_pyNext_list_item hI' pl'.isList (by rw [List.getElem?_toArray]; exact hu) (fun h' hit same => ?_)))
  obtain ⟨oI', gI', cI', dI'⟩ := hit
  have JS : L2.Inv X ((S, seqObj "list" #[] 0) :: pins) σ H' s := J.pins_of fun q hq => J.pin q (List.mem_append_right _ (.tail _ hq))
  have fI : ∀ oS, FpOk X ((S, oS) :: pins) H' I := fun oS => ⟨pI.2.1, hI.2.1, hI.2.2.1, hI.2.2.2.1, hI.2.2.2.2.1, fun q hq => by
    rcases List.mem_append.mp hq with hq | hq
    · exact hI.2.2.2.2.2 q (List.mem_append_left _ hq)
    · cases hq with
      | head => exact hIS.symm
      | tail _ hq => exact hI.2.2.2.2.2 q (List.mem_append_right _ hq)⟩
  have J1 := JS.turnedL (ch := [I]) (t' := s.toks) (h' := h') (fun q o nq e => by rw [same.2 q (fun e => nq (by rw [e]; exact .head _))]; exact e) (fun q hq => by
    cases hq with
    | head => exact fI _
    | tail _ h => cases h)
  have J2 := pins_cons (p := (I, oI')) J1 gI' (fI _) (fun v e => by rw [dI'] at e; cases e)
  have key := run_key1 (Q := fun v H2 => ∃ p2, v = .ref p2 ∧ H' p2 = none ∧ H2 = L2.upd H' p2 (.tup (pl y))) F (room_in1 hr) J2 (.cons ru .nil) ⟨y, rfl, hyv, fun p2 hp2 => ⟨p2, rfl, hp2, rfl⟩⟩
  show wpAny _ _ (tryCatch (holding [u] (call (.ref f) [u])) _ >>= _) _ _ _
  refine wpAny_bind (wpAny_tryCatch (wpAny_holding (wpAny_call (codeAny_mono key fun res s2 hq => ?_))))
  match res, hq with
  | .ok (.ret w), ⟨v, H2, J3, rv, p2, ev, hn2, eH⟩ =>
  subst ev eH
  cases rv
  have hp2 : (L2.upd H' p2 (.tup (pl y))) p2 = some (.tup (pl y)) := upd_same
  have qS := J3.pin (S, seqObj "list" #[] 0) (List.mem_append_right _ (.tail _ (.head _)))
  have qI := J3.pin (I, oI') (List.mem_append_right _ (.head _))
  show wpAny _ _ (updateSeq S (fun _ => #[u, .ref p2]) >>= _) _ _ _
  refine wpAny_bind (wpAny_updateSeq qS.1 rfl ?_ (by show 0 ≤ sizeLine; decide) (by show 2 ≤ sizeLine + 1; decide))
  refine wpAny_pure ⟨rfl, ?_⟩
  have J4 : L2.Inv X pins σ _ s2 := J3.pins_of fun q hq => J3.pin q (List.mem_append_right _ (.tail _ (.tail _ hq)))
  have J5 := J4.turnedL (ch := [S]) (t' := s2.toks) (h' := s2.heap.update S (Obj.mapSeq fun _ => #[u, .ref p2])) (fun q o nq e => by rw [Heap.get?_update_other _ _ (fun e => nq (by rw [← e]; exact .head _))]; exact e) (fun q hq => by
    cases hq with
    | head => exact ⟨qS.2.1, hS.2⟩
    | tail _ h => cases h)
  have J6 := pins_cons (p := (S, seqObj "list" #[u, .ref p2] (if (#[u, Value.ref p2].size == (#[] : Array Value).size) = true then 0 else 0 + 1))) J5 (get?_update_seq qS.1 (fun _ => #[u, .ref p2])) ⟨qS.2.1, hS.2⟩ (fun v e => nomatch e)
  have gI6 : (s2.heap.update S (Obj.mapSeq fun _ => #[u, .ref p2])).get? I = some oI' := by rw [Heap.get?_update_other _ _ hIS.symm]; exact qI.1
  have J7 := pins_cons (p := (I, oI')) J6 gI6 ⟨qI.2.1, (fI _).2⟩ (fun v e => by rw [dI'] at e; cases e)
  have tk : ys.take 1 = [y] := by rw [List.take_add_one, hy]; rfl
  have irr : pGt y y = false := by unfold pGt; rw [← lt_pl]; exact (listOrd itemOrd).irrefl (keyToks (plD y))
  exact max_loop (H := H') F hr hv hIS hI hS hz done _ 1 _ _ y u p2 _ oI' rfl h0 (same_new hn2 _) (Same.seq (same_new hn2 _) ha) J7 ⟨oI', gI6, cI', dI'⟩ ru (by rw [tk]; exact .head _) (fun z hz' => by rw [tk] at hz'; rw [List.mem_singleton.mp hz']; exact irr) hp2
def rMaxK (K : PySem.W.Frag) (b : Addr) : List V → List V → Hp → VK → Prop := fun vs zs H Q => ∃ (a : Addr) (ys : List V), vs = [.ref a] ∧ zs = [.ref b] ∧ SqL K H a ys ∧ 0 < ys.length ∧ (∀ y ∈ ys, vOk y) ∧
  ∀ H1 y, Same H H1 → y ∈ ys → (∀ z ∈ ys, pGt z y = false) → Q y H1
theorem cr_maxK (F : FnR X.prog X.w X.K X.mg X.base CX0 k f spPlace) (hr : Room (k + 1) X.A) : CallRK X (.builtin "max") ["key"] (rMaxK X.K f) := by
  intro pins s σ H xs zs us ws Q I rx rz h
  obtain ⟨a, ys, rfl, rfl, ha, h0, hv, q⟩ := h
  have e1 := rx.ref1
  have e2 := rz.ref1
  subst e1 e2
  show wpAny _ _ (call (.builtin "max") [.ref a] [("key", .ref f)]) _ _ _
  obtain ⟨its, r, pl', hz⟩ := I.list ha
  refine kmk_tree (by rfl) (by decide +kernel) PySem.F.entry_max (kmk_max_key _ _) ?_
  unfold Builtin.max
  show wpAny _ _ (Builtin.Builtins.bindParams "max" ["key", "default"] 0 { kw := [("key", .ref f)] } >>= _) _ _ _
  rw [show Builtin.Builtins.bindParams "max" ["key", "default"] 0 { kw := [("key", .ref f)] } = pure [some (.ref f), none] from rfl]
  refine wpAny_bind (wpAny_pure ?_)
  show wpAny _ _ (pyIter (.ref a) >>= _) _ _ _
  refine wpAny_bind (wpAny_pyIter_list pl'.isList ?_)
  refine wpAny_bind (wpAny_newList ?_ (Nat.zero_le _))
  refine wpAny_pure ⟨rfl, ?_⟩
  dsimp only
  generalize hh1 : s.heap.push { cls := Value.type "list_iterator", data := Data.fields #[Value.ref a, Value.int 0 0] } = h1
  have g1 : h1.get? s.heap.objs.size = some { cls := Value.type "list_iterator", data := Data.fields #[Value.ref a, Value.int 0 0] } := by rw [← hh1]; exact Heap.get?_push_size _ rfl
  have s1 : h1.objs.size = s.heap.objs.size + 1 := by rw [← hh1]; exact Array.size_push _
  have k1 : ∀ b o, s.heap.get? b = some o → h1.get? b = some o := fun b o e => by rw [← hh1]; exact Heap.get?_push_of_some _ e
  have k2 : ∀ b o, h1.get? b = some o → (h1.push { cls := Value.type "list", data := Data.seq (#[] : Array Value) }).get? b = some o := fun b o e => Heap.get?_push_of_some _ e
  have I2 := I.kept (h' := h1.push { cls := Value.type "list", data := Data.seq (#[] : Array Value) }) (t' := s.toks) (fun b o e => k2 b o (k1 b o e))
  have hI : FpOk X pins H s.heap.objs.size := I.fpOk (Nat.le_refl _) (I.hok.fresh (Nat.le_refl _))
  have hS : FpOk X pins H h1.objs.size := I.fpOk (by show s.heap.objs.size ≤ _; omega) (I.hok.fresh (by show s.heap.objs.size ≤ _; omega))
  have ne : s.heap.objs.size ≠ h1.objs.size := by rw [s1]; exact Nat.ne_of_lt (Nat.lt_succ_self _)
  have J1 := pins_cons (p := (h1.objs.size, seqObj "list" #[] 0)) I2 (Heap.get?_push_size _ rfl) hS (fun v e => nomatch e)
  have J2 := pins_cons (p := (s.heap.objs.size, { cls := Value.type "list_iterator", data := Data.fields #[Value.ref a, Value.int 0 0] })) J1 (k2 _ _ g1) ⟨hI.1, hI.2.1, hI.2.2.1, hI.2.2.2.1, hI.2.2.2.2.1, fun q hq => by
    rcases List.mem_append.mp hq with hq | hq
    · exact hI.2.2.2.2.2 q (List.mem_append_left _ hq)
    · cases hq with
      | head => exact ne.symm
      | tail _ hq => exact hI.2.2.2.2.2 q (List.mem_append_right _ hq)⟩ (fun v e => nomatch e)
  exact max_first F hr hv h0 ne hI hS hz (fun y u H1 s1 hy hm sm ru J => ⟨y, H1, J, ru, q H1 y sm hy hm⟩) ha J2 ⟨_, k2 _ _ g1, rfl, rfl⟩
end
end Ask
namespace Ask
open PySem L2 PySem.W PyProof.Rows
/-! ### set(xs) of whole numbers and texts -/
def memK (k : L2.Key) (acc : List L2.Key) : Bool := acc.any fun x => decide (x = k)
def distK (ks : List L2.Key) : List L2.Key := ks.foldl (fun acc k => if memK k acc = true then acc else acc ++ [k]) []
theorem distK_snoc (ks : List L2.Key) (k : L2.Key) : distK (ks ++ [k]) = if memK k (distK ks) = true then distK ks else distK ks ++ [k] := by
  unfold distK
  rw [List.foldl_append]
  rfl
theorem distK_len (ks : List L2.Key) : (distK ks).length ≤ ks.length := by
  have go : ∀ (ks acc : List L2.Key), (ks.foldl (fun acc k => if memK k acc = true then acc else acc ++ [k]) acc).length ≤ acc.length + ks.length := by
    intro ks
    induction ks with
    | nil => exact fun acc => Nat.le_refl _
    | cons k ks ih =>
      intro acc
      rw [List.foldl_cons, List.length_cons]
      refine Nat.le_trans (ih _) ?_
      split
      · omega
      · rw [List.length_append, List.length_singleton]; omega
  have := go ks []
  rw [List.length_nil, Nat.zero_add] at this
  exact this
theorem set_loop {prog : Program} {w : World} {A : Around} {R : Result → Shared → Prop} {S I l : Addr} {items : Array Value} {keys : List L2.Key} (hh : A.handled = none) (hSI : S ≠ I) (hlS : l ≠ S) (hlI : l ≠ I) (hk : EachIs (fun v k => (mixKind prog w).is k v = true ∧ v.scannable = true) items.toList keys) (hn : keys.length + 1 < scanBound)
    {g : Array GenState} {d : Drawn} {os : OsState} {h0 : Heap} (done : ∀ (h' : Heap) (tk : Nat), Heap.SetOf (mixKind prog w) h' S (fun k => memK k (distK keys)) (distK keys).length → (∀ b o, b ≠ S → b ≠ I → h0.get? b = some o → h'.get? b = some o) → R (.ok (.ret .none)) { heap := h', gens := g, drawn := d, toks := tk, os := os }) :
    ∀ (n j : Nat) (h : Heap) (tk : Nat), keys.length - j = n → j ≤ keys.length → h.IsListIter I l j → h.IsList l items → Heap.SetOf (mixKind prog w) h S (fun k => memK k (distK (keys.take j))) (distK (keys.take j)).length → (∀ b o, b ≠ S → b ≠ I → h0.get? b = some o → h.get? b = some o) →
      codeAny (model prog w) A (Code.builtin "set.update.loop" { pos := [Value.ref S, Value.ref I] }) R { heap := h, gens := g, drawn := d, toks := tk, os := os } := by
  have hlen : items.size = keys.length := each_len hk
  intro n
  induction n with
  | zero =>
    intro j h tk hn' hj hI hl hS keep
    have ej : j = keys.length := by omega
    subst ej
    rw [List.take_length] at hS
    refine codeAny_builtin F.entry_set_update_loop ?_
    unfold Builtin.«set.update.loop»
    show wpAny _ _ (pyNext (.ref I) >>= _) _ _ _
    refine wpAny_bind (wpAny_pyNext_list_end hh hI hl (Array.getElem?_eq_none (by omega)) (fun h' ext => ?_))
    show wpAny _ _ (ret .none) _ _ _
    refine wpAny_pure ?_
    exact done h' tk (setOf_at hS fun o e => ext _ _ hSI e) fun b o n1 n2 e => ext b o n2 (keep b o n1 n2 e)
  | succ n ih =>
    intro j h tk hn' hj hI hl hS keep
    have hj' : j < keys.length := by omega
    obtain ⟨k, ek⟩ : ∃ k, keys[j]? = some k := ⟨_, List.getElem?_eq_getElem hj'⟩
    obtain ⟨v, ev⟩ : ∃ v, items[j]? = some v := ⟨_, Array.getElem?_eq_getElem (by omega)⟩
    have hv : (mixKind prog w).is k v = true ∧ v.scannable = true := by
      have := hk.zip (v, k) (List.mem_of_getElem? (i := j) (by rw [List.getElem?_zip_eq_some]; exact ⟨by rw [Array.getElem?_toList]; exact ev, ek⟩))
      exact this
    refine codeAny_builtin F.entry_set_update_loop ?_
    unfold Builtin.«set.update.loop»
    show wpAny _ _ (pyNext (.ref I) >>= _) _ _ _
    refine wpAny_bind (wpAny_pyNext_list_item hI hl ev (fun h' hI' same => ?_))
    show wpAny _ _ (holding [v] (setAdd S v) >>= _) _ _ _
    refine wpAny_bind (wpAny_holding ?_)
    unfold setAdd
    refine wpAny_holding (wpAny_bind ((mixKind prog w).pyHash hv.1 ?_))
    have hS' : Heap.SetOf (mixKind prog w) h' S (fun k => memK k (distK (keys.take j))) (distK (keys.take j)).length := setOf_at hS fun o e => by rw [same.2 S hSI]; exact e
    have ln := distK_len (keys.take j)
    rw [List.length_take] at ln
    refine wpAny_setAddHashed_of hv.1 hv.2 hS' (by omega) (fun h2 same2 hS2 => ?_)
    refine wpAny_pure ⟨Code.quiet_builtin _ (by decide +kernel), ?_⟩
    have tk1 : keys.take (j + 1) = keys.take j ++ [k] := by rw [List.take_add_one, ek]; rfl
    refine ih (j + 1) h2 _ (by omega) (by omega) (hI'.at fun o e => by rw [same2.2 I hSI.symm]; exact e) ?_ ?_ (fun b o n1 n2 e => ?_)
    · obtain ⟨o, e1, e2⟩ := hl
      exact ⟨o, by rw [same2.2 l hlS, same.2 l hlI]; exact e1, e2⟩
    · rw [tk1, distK_snoc]
      have e1 : (fun k' => memK k' (if memK k (distK (keys.take j)) = true then distK (keys.take j) else distK (keys.take j) ++ [k])) = fun k' => (memK k' (distK (keys.take j)) || decide (k' = k)) := by
        funext k'
        cases m : memK k (distK (keys.take j)) with
        | true =>
          rw [if_pos rfl]
          by_cases q : k' = k
          · subst q; rw [m]; rfl
          · rw [decide_eq_false q, Bool.or_false]
        | false =>
          rw [if_neg Bool.false_ne_true]
          unfold memK
          rw [List.any_append, List.any_cons, List.any_nil, Bool.or_false]
          congr 1
          by_cases q : k' = k
          · rw [decide_eq_true q, decide_eq_true q.symm]
          · rw [decide_eq_false q, decide_eq_false fun e => q e.symm]
      have e2 : (if memK k (distK (keys.take j)) = true then distK (keys.take j) else distK (keys.take j) ++ [k]).length = if memK k (distK (keys.take j)) = true then (distK (keys.take j)).length else (distK (keys.take j)).length + 1 := by
        cases m : memK k (distK (keys.take j)) with
        | true => rw [if_pos rfl, if_pos rfl]
        | false => rw [if_neg Bool.false_ne_true, if_neg Bool.false_ne_true, List.length_append]; rfl
      rw [e1, e2]
      exact hS2
    · rw [same2.2 b n1, same.2 b n2]
      exact keep b o n1 n2 e
theorem call_set_mix {prog : Program} {w : World} {A : Around} {E : Value → Shared → Prop} {s : Shared} {l : Addr} {items : Array Value} {keys : List L2.Key} {Q : Value → Shared → Prop} (hh : A.handled = none) (hl : s.heap.IsList l items) (hk : EachIs (fun v k => (mixKind prog w).is k v = true ∧ v.scannable = true) items.toList keys) (hn : keys.length + 1 < scanBound)
    (q : ∀ (h' : Heap) (tk : Nat), Heap.SetOf (mixKind prog w) h' s.heap.objs.size (fun k => memK k (distK keys)) (distK keys).length → (∀ b o, s.heap.get? b = some o → h'.get? b = some o) → Q (.ref s.heap.objs.size) { heap := h', gens := s.gens, drawn := s.drawn, toks := tk, os := s.os }) : wpAny (model prog w) A (call (.type "set") [.ref l]) Q E s := by
  obtain ⟨c, tl, hmro⟩ := F.called_set.mro
  have hmade := F.called_set.made
  have hsub := F.called_set.sub
  have h1 := F.called_set.notType
  have h2 := F.called_set.canCreate
  refine wpAny_call (codeAny_of_tree ?_)
  show wpAny _ _ (pure _) _ _ _
  refine wpAny_pure ⟨Code.quiet_builtin _ (by decide +kernel), ?_⟩
  refine codeAny_builtin F.entry_type_call ?_
  rw [Around.under_plain (weight_type_call_type "set" [.ref l] []) rfl]
  unfold Builtin.«type.__call__»
  dsimp only
  rw [if_neg (by decide), if_neg (by decide +kernel)]
  refine wpAny_bind (wpAny_of_eq (F.typeCall_set_1 (.ref l)) ?_)
  refine wpAny_bind (wpAny_of_eq hmro ?_)
  rw [if_neg (fun e => by cases e)]
  refine wpAny_bind (wpAny_of_eq hmade ?_)
  show wpAny _ _ (pure (Value.builtin "set.__new__") >>= _) _ _ _
  refine wpAny_bind (wpAny_pure ?_)
  refine wpAny_bind (wpAny_holding (wpAny_call (codeAny_mono (code_set_new_1 (E := fun _ _ => False) (.ref l) (Q₁ := fun v s1 => ∃ led, v = .ref s.heap.objs.size ∧ s1 = { heap := s.heap.push { cls := Value.type "set", data := Data.set #[] 0 (SetTable.fresh 0 0 led) }, gens := s.gens, drawn := s.drawn, toks := s.toks, os := s.os }) fun led => ⟨led, rfl, rfl⟩) fun r s1 hr => ?_)))
  match r, hr with
  | .ok (.ret v), ⟨led, ev, es⟩ =>
  subst ev es
  have ti : ({ heap := s.heap.push { cls := Value.type "set", data := Data.set #[] 0 (SetTable.fresh 0 0 led) }, gens := s.gens, drawn := s.drawn, toks := s.toks, os := s.os } : Shared).TypeIs (.ref s.heap.objs.size) "set" := ⟨_, Heap.get?_push_size _ rfl, rfl⟩
  show wpAny _ _ (isInstance (.ref s.heap.objs.size) (.type "set") >>= _) _ _ _
  refine wpAny_bind (wpAny_isInstance ti hsub ?_)
  rw [if_neg (by decide)]
  refine wpAny_bind (wpAny_holding (wpAny_callSpecial?_slot ti F.called_set.init ?_))
  refine wpAny_call (codeAny_call_builtin (by decide +kernel) F.entry_set_init (check_set_init_1 ti ?_))
  unfold Builtin.«set.__init__»
  refine wpAny_bind (wpAny_pure ?_)
  dsimp only
  have tl : ({ heap := s.heap.push { cls := Value.type "set", data := Data.set #[] 0 (SetTable.fresh 0 0 led) }, gens := s.gens, drawn := s.drawn, toks := s.toks, os := s.os } : Shared).TypeIs (.ref l) "list" := by
    obtain ⟨o, g, hc, _⟩ := hl
    exact ⟨o, Heap.get?_push_of_some _ g, hc⟩
  refine wpAny_bind ?_
  unfold typeNameOfCut
  refine wpAny_bind ?_
  unfold shownTypeOf
  refine wpAny_bind (wpAny_typeOf ti ?_)
  rw [if_neg (by decide)]
  refine wpAny_pure ?_
  rw [show typeNameCut 200 (Value.type "set") = pure "set" from by rfl]
  refine wpAny_pure ?_
  rw [show checkCount "set" 0 1 [Value.ref l].length = pure () from rfl]
  refine wpAny_bind (wpAny_pure ?_)
  show wpAny _ _ (pure s.heap.objs.size >>= _) _ _ _
  refine wpAny_bind (wpAny_pure ?_)
  refine wpAny_bind ?_
  unfold setUsed
  refine wpAny_bind (wpAny_setState_of (Heap.get?_push_size _ rfl) rfl (by rfl) ?_)
  refine wpAny_pure ?_
  rw [if_neg (by rw [show (SetTable.fresh 0 0 led).fill = 0 from rfl]; decide)]
  refine wpAny_bind ?_
  unfold Builtin.Frozenset.updateFrom
  refine wpAny_bind ?_
  unfold Builtin.Frozenset.isAnySet
  refine wpAny_bind (wpAny_isInstance tl F.sub_list_set ?_)
  show wpAny _ _ (isInstance (.ref l) (.type "frozenset")) _ _ _
  refine wpAny_isInstance tl F.sub_list_frozenset ?_
  rw [if_neg (by decide)]
  refine wpAny_bind (wpAny_typeOf tl ?_)
  rw [if_neg (by decide)]
  have hl1 : (s.heap.push { cls := Value.type "set", data := Data.set #[] 0 (SetTable.fresh 0 0 led) }).IsList l items := by
    obtain ⟨o, g, hc⟩ := hl
    exact ⟨o, Heap.get?_push_of_some _ g, hc⟩
  refine wpAny_bind (wpAny_pyIter_list hl1 ?_)
  refine wpAny_bind (wpAny_runValue ?_)
  have hset : Heap.SetOf (mixKind prog w) (s.heap.push { cls := Value.type "set", data := Data.set #[] 0 (SetTable.fresh 0 0 led) }) s.heap.objs.size (fun k => memK k (distK (keys.take 0))) (distK (keys.take 0)).length := by
    letI : BEq L2.Key := instBEqOfDecidableEq
    haveI : LawfulBEq L2.Key := inferInstance
    exact Obj.SetObjOf.setOf (setObjOf_fresh led) (Heap.get?_push_size _ rfl) (by show 0 < scanBound; decide)
  dsimp only
  generalize hh1 : s.heap.push { cls := Value.type "set", data := Data.set #[] 0 (SetTable.fresh 0 0 led) } = h1 at hset hl1
  have sz1 : h1.objs.size = s.heap.objs.size + 1 := by rw [← hh1]; exact Array.size_push _
  have k1 : ∀ b o, s.heap.get? b = some o → h1.get? b = some o := fun b o e => by rw [← hh1]; exact Heap.get?_push_of_some _ e
  have llt : l < s.heap.objs.size := by
    obtain ⟨o, g, _⟩ := hl
    exact Heap.lt_size g
  have hl2 : (h1.push { cls := Value.type "list_iterator", data := Data.fields #[Value.ref l, Value.int 0 0] }).IsList l items := by
    obtain ⟨o, g, hc⟩ := hl1
    exact ⟨o, Heap.get?_push_of_some _ g, hc⟩
  refine set_loop (A := A.in1.in1) (l := l) (keys := keys) (h0 := h1.push { cls := Value.type "list_iterator", data := Data.fields #[Value.ref l, Value.int 0 0] }) hh ?_ ?_ ?_ hk hn (fun h' tk hS keep => ?_) _ 0 _ _ rfl (Nat.zero_le _) ⟨_, Heap.get?_push_size _ rfl, rfl, rfl⟩ hl2 (setOf_at hset fun o e => Heap.get?_push_of_some _ e) (fun b o _ _ e => e)
  · rw [sz1]; exact Nat.ne_of_lt (Nat.lt_succ_self _)
  · exact Nat.ne_of_lt llt
  · rw [sz1]; exact Nat.ne_of_lt (Nat.lt_succ_of_lt llt)
  · refine wpAny_pure ?_
    show wpAny _ _ (ret .none) _ _ _
    refine wpAny_pure ?_
    dsimp only
    rw [if_neg (by decide)]
    show wpAny _ _ (ret (.ref s.heap.objs.size)) _ _ _
    refine wpAny_pure ?_
    refine q h' tk hS fun b o e => keep b o ?_ ?_ (Heap.get?_push_of_some _ (k1 b o e))
    · exact Nat.ne_of_lt (Heap.lt_size e)
    · rw [sz1]; exact Nat.ne_of_lt (Nat.lt_succ_of_lt (Heap.lt_size e))
/-- set(xs), xs a list of whole numbers and texts -/
def rSetMix (K : PySem.W.Frag) (P : Program) (w : World) : List V → Hp → VK → Prop := fun xs H Q => ∃ (l : Addr) (ks : List L2.Key), xs = [.ref l] ∧ SqL K H l (ks.map kV) ∧ ks.length ≤ 1000 ∧ ∀ p, H p = none → Q (.ref p) (L2.upd H p (SetK P w p (fun k => memK k (distK ks)) (distK ks).length))
theorem keys_each {P : Program} {w : World} : ∀ {ks : List L2.Key} {us : List Value}, Vals (ks.map kV) us → EachIs (fun v k => (mixKind P w).is k v = true ∧ v.scannable = true) us ks
  | [], [], _ => .nil
  | .inl i :: ks, u :: us, .cons ⟨t, e⟩ r => by
    subst e
    exact .cons ⟨mixKind_int P w i t, by rfl⟩ (keys_each r)
  | .inr z :: ks, u :: us, .cons ⟨t, e⟩ r => by
    subst e
    exact .cons ⟨mixKind_str P w z t, by rfl⟩ (keys_each r)
theorem cr_setMix {X : Cx} (hh : X.A.handled = none) : CallR X (.type "set") (rSetMix X.K X.prog X.w) := by
  intro pins s σ H xs us Q I rx h
  obtain ⟨l, ks, rfl, ha, hz, q⟩ := h
  have e1 := rx.ref1
  subst e1
  obtain ⟨its, r, pl', _⟩ := I.list ha
  refine call_set_mix hh pl'.isList (keys_each r) (Nat.lt_of_le_of_lt (Nat.succ_le_succ hz) (by decide)) (fun h' tk hS keep => ?_)
  have hp : H s.heap.objs.size = none := I.hok.fresh (Nat.le_refl _)
  refine ⟨.ref s.heap.objs.size, _, I.laid (o := SetK X.prog X.w s.heap.objs.size (fun k => memK k (distK ks)) (distK ks).length) keep (Nat.le_refl _) ?_, rfl, q _ hp⟩
  refine ⟨hS, ?_, fun h1 h2 a b => setOf_at a b⟩
  obtain ⟨o, g, _⟩ := Heap.SetOf.typeIs (s := { heap := h', gens := s.gens, drawn := s.drawn, toks := tk, os := s.os }) hS
  exact ⟨o, g⟩
theorem cr_lenSetK {X : Cx} : CallR X (.builtin "len") (fun xs H Q => ∃ (a : Addr) (S : L2.Key → Bool) (n : Nat), xs = [.ref a] ∧ H a = some (SetK X.prog X.w a S n) ∧ Q (.int (n : Int)) H) := by
  intro pins s σ H xs us Q I rx h
  obtain ⟨a, S, n, rfl, ha, q⟩ := h
  have e1 := rx.ref1
  subst e1
  obtain ⟨⟨o, es, ep, t, g, ex, hd, _, _, hlt, fits, rfl⟩, _, _⟩ := I.hok a _ ha
  refine call_len_set g ex hd fits ?_ ⟨.int es.size, H, I.tok _, ⟨_, rfl⟩, q⟩
  have : scanBound < 2 ^ 63 := by decide
  omega
end Ask
namespace Ask
open PySem L2
open PySem.W (dataLe)
/-! ### what aggregates are -/
def isI : V → Bool
  | .int _ => true
  | _ => false
def iOf : V → Int
  | .int i => i
  | _ => 0
def nnV (v : V) : Bool := !decide (v = .non)
def tld (ys : List V) : List V := ys.filter nnV
def ntsOf (ys : List V) : List Int := (ys.filter isI).map iOf
theorem nts_map : ∀ ys : List V, ys.filter isI = (ntsOf ys).map V.int
  | [] => rfl
  | y :: ys => by
    have ih := nts_map ys
    unfold ntsOf at ih ⊢
    cases y with
    | int i =>
      rw [List.filter_cons_of_pos rfl, List.map_cons, List.map_cons, ← ih]
      rfl
    | _ => rw [List.filter_cons_of_neg (by intro h; cases h), ← ih]
def kOf : V → L2.Key
  | .int i => .inl i
  | .str z => .inr z
  | _ => .inl 0
theorem kV_kOf {v : V} (h : vOk v) (n : nnV v = true) : kV (kOf v) = v := by
  cases v with
  | non => cases n
  | int i => rfl
  | str z => rfl
  | _ => exact h.elim
theorem keys_map : ∀ {ys : List V}, (∀ y ∈ ys, vOk y) → (∀ y ∈ ys, nnV y = true) → (ys.map kOf).map kV = ys
  | [], _, _ => rfl
  | y :: ys, h, n => by
    rw [List.map_cons, List.map_cons, kV_kOf (h y (.head _)) (n y (.head _)), keys_map (fun z hz => h z (.tail _ hz)) (fun z hz => n z (.tail _ hz))]
theorem tld_nn {ys : List V} : ∀ y ∈ tld ys, nnV y = true := fun y hy => (List.mem_filter.mp hy).2
theorem tld_ok {ys : List V} (h : ∀ y ∈ ys, vOk y) : ∀ y ∈ tld ys, vOk y := fun y hy => h y (List.mem_filter.mp hy).1
theorem tld_len (ys : List V) : (tld ys).length ≤ ys.length := List.length_filter_le _ _
/-! the number of unlike ones -/
theorem memK_iff {k : L2.Key} {l : List L2.Key} : memK k l = true ↔ k ∈ l := by
  unfold memK
  rw [List.any_eq_true]
  constructor
  · rintro ⟨x, hx, e⟩
    rw [← of_decide_eq_true e]
    exact hx
  · intro h
    exact ⟨k, h, decide_eq_true rfl⟩
theorem distK_both (ks : List L2.Key) : (distK ks).Nodup ∧ ∀ k, k ∈ distK ks ↔ k ∈ ks := by
  have go : ∀ (n : Nat) (ks : List L2.Key), ks.length = n → (distK ks).Nodup ∧ ∀ k, k ∈ distK ks ↔ k ∈ ks := by
    intro n
    induction n with
    | zero =>
      intro ks h
      rw [List.length_eq_zero_iff.mp h]
      exact ⟨List.nodup_nil, fun k => Iff.rfl⟩
    | succ n ih =>
      intro ks h
      have ne : ks ≠ [] := fun e => by rw [e] at h; cases h
      obtain ⟨l, x, rfl⟩ : ∃ l x, ks = l ++ [x] := ⟨ks.dropLast, ks.getLast ne, (List.dropLast_concat_getLast ne).symm⟩
      obtain ⟨i1, i2⟩ := ih l (by rw [List.length_append, List.length_singleton] at h; omega)
      rw [distK_snoc]
      split
      · next q =>
        have hx := (i2 x).mp (memK_iff.mp q)
        refine ⟨i1, fun k => (i2 k).trans ?_⟩
        rw [List.mem_append, List.mem_singleton]
        exact ⟨.inl, fun e => e.elim id fun e => e ▸ hx⟩
      · next q =>
        refine ⟨?_, fun k => ?_⟩
        · rw [List.nodup_append]
          refine ⟨i1, List.nodup_cons.mpr ⟨List.not_mem_nil, List.nodup_nil⟩, fun a ha b hb e => q ?_⟩
          rw [List.mem_singleton] at hb
          rw [← hb, ← e]
          exact memK_iff.mpr ha
        · rw [List.mem_append, List.mem_append, i2]
  exact go _ ks rfl
theorem nodup_le : ∀ {xs ys : List L2.Key}, xs.Nodup → (∀ x ∈ xs, x ∈ ys) → xs.length ≤ ys.length
  | [], _, _, _ => Nat.zero_le _
  | x :: xs, ys, hn, hs => by
    obtain ⟨s, t, rfl⟩ := List.append_of_mem (hs x (.head _))
    obtain ⟨n1, n2⟩ := List.nodup_cons.mp hn
    have := nodup_le (ys := s ++ t) n2 fun z hz => by
      have h := hs z (.tail _ hz)
      rw [List.mem_append, List.mem_cons] at h
      rw [List.mem_append]
      rcases h with h | h | h
      · exact .inl h
      · exact (n1 (h ▸ hz)).elim
      · exact .inr h
    rw [List.length_append] at this
    rw [List.length_cons, List.length_append, List.length_cons]
    omega
theorem distK_perm {xs ys : List L2.Key} (h : xs.Perm ys) : (distK xs).length = (distK ys).length := by
  obtain ⟨x1, x2⟩ := distK_both xs
  obtain ⟨y1, y2⟩ := distK_both ys
  exact Nat.le_antisymm (nodup_le x1 fun k hk => (y2 k).mpr (h.subset ((x2 k).mp hk))) (nodup_le y1 fun k hk => (x2 k).mpr (h.symm.subset ((y2 k).mp hk)))
/-- what the n-th aggregate of values is: count, sum, least, most -/
def AggIs (n : Nat) (b : Bool) (ys : List V) (v : V) : Prop := match n with
  | 0 => v = .int (if b = true then (distK ((tld ys).map kOf)).length else (tld ys).length : Nat)
  | 1 => v = if ntsOf ys = [] then .non else .int (ntsOf ys).sum
  | 2 => tld ys = [] ∧ v = .non ∨ v ∈ tld ys ∧ ∀ z ∈ tld ys, pLt z v = false
  | _ => tld ys = [] ∧ v = .non ∨ v ∈ tld ys ∧ ∀ z ∈ tld ys, pLt v z = false
theorem AggIs.one {n : Nat} {b : Bool} {ys : List V} {v u : V} (hy : ∀ y ∈ ys, vOk y) (hv : AggIs n b ys v) (hu : AggIs n b ys u) : v = u := by
  match n, hv, hu with
  | 0, hv, hu => exact hv.trans hu.symm
  | 1, hv, hu => exact hv.trans hu.symm
  | 2, hv, hu =>
    rcases hv with ⟨e, hv⟩ | ⟨hv, mv⟩
    · rcases hu with ⟨_, hu⟩ | ⟨hu, _⟩
      · exact hv.trans hu.symm
      · rw [e] at hu; exact (List.not_mem_nil hu).elim
    · rcases hu with ⟨e, _⟩ | ⟨hu, mu⟩
      · rw [e] at hv; exact (List.not_mem_nil hv).elim
      · apply Classical.byContradiction
        intro ne
        rcases pLt_tri (tld_ok hy v hv) (tld_ok hy u hu) ne with h | h
        · rw [mu v hv] at h; cases h
        · rw [mv u hu] at h; cases h
  | n + 3, hv, hu =>
    rcases hv with ⟨e, hv⟩ | ⟨hv, mv⟩
    · rcases hu with ⟨_, hu⟩ | ⟨hu, _⟩
      · exact hv.trans hu.symm
      · rw [e] at hu; exact (List.not_mem_nil hu).elim
    · rcases hu with ⟨e, _⟩ | ⟨hu, mu⟩
      · rw [e] at hv; exact (List.not_mem_nil hv).elim
      · apply Classical.byContradiction
        intro ne
        rcases pLt_tri (tld_ok hy v hv) (tld_ok hy u hu) ne with h | h
        · rw [mv u hu] at h; cases h
        · rw [mu v hv] at h; cases h
def wdAt : Nat → Str
  | 0 => "count"
  | 1 => "sum"
  | 2 => "least"
  | _ => "most"
/-! ### sums -/
def sg3 : Nat → Str
  | 0 => "+"
  | 1 => "-"
  | _ => "*"
def rec3 (k : Nat) (i j : Int) : Int := match k with
  | 0 => i + j
  | 1 => i - j
  | _ => i * j
def recV (k : Nat) (x y : V) : V := if isI x = true ∧ isI y = true then .int (rec3 k (iOf x) (iOf y)) else .non
theorem three_get {v0 v1 v2 : V} : ∀ {n : Nat} {f : Nat → V}, n < 3 → f 0 = v0 → f 1 = v1 → f 2 = v2 →
    valV (mergeK [] [(.inr "+", v0), (.inr "-", v1), (.inr "*", v2)]) (.inr (sg3 n)) = some (f n) := by
  intro n f hn e0 e1 e2
  have go : ∀ k : Key, valV (mergeK [] [(.inr "+", v0), (.inr "-", v1), (.inr "*", v2)]) k = if k = .inr "*" then some v2 else if k = .inr "-" then some v1 else if k = .inr "+" then some v0 else none := fun k => by
    show valV (putK (putK (putK [] (.inr "+") v0) (.inr "-") v1) (.inr "*") v2) k = _
    rw [valV_put, valV_put, valV_put]
    rfl
  rw [go]
  have : n = 0 ∨ n = 1 ∨ n = 2 := by omega
  rcases this with rfl | rfl | rfl
  · rw [if_neg (by decide +kernel), if_neg (by decide +kernel), if_pos (by decide +kernel), e0]
  · rw [if_neg (by decide +kernel), if_pos (by decide +kernel), e1]
  · rw [if_pos (by decide +kernel), e2]
theorem ints_dpI {K : PySem.W.Frag} {H : Hp} : ∀ ps : List Int, DpAll K H (ps.map V.int) (ps.map PyData.int)
  | [] => .nil
  | p :: ps => .cons (.int _) (ints_dpI ps)
theorem ints_shapedI (ps : List Int) : SeqAt.shaped (.list (ps.map PyData.int)) = true := by
  unfold SeqAt.shaped
  have h1 : ∀ ps : List Int, PyData.canLayAll0 (ps.map PyData.int) = true := by
    intro ps
    induction ps with
    | nil => rfl
    | cons p ps ih => simp only [List.map_cons, PyData.canLayAll0, PyData.canLay0, ih, Bool.and_self]
  have h2 : ∀ ps : List Int, PyData.depthAll (ps.map PyData.int) ≤ 1 := by
    intro ps
    induction ps with
    | nil => simp [PyData.depthAll]
    | cons p ps ih => simp only [List.map_cons, PyData.depthAll, PyData.depth]; omega
  have := h2 ps
  simp only [PyData.canLay0, h1, Bool.true_and]
  exact decide_eq_true (by simp only [PyData.depth]; omega)
theorem nil_shaped : SeqAt.shaped (.list []) = true := by decide +kernel
theorem eqv_nil (ds : List PyData) : PyData.eqv (.list ds) (.list []) = ds.isEmpty := by
  cases ds <;> simp [PyData.eqv, PyData.eqvAll]
/-! sorted values -/
theorem le_pair {ys : List V} : ((ys.mergeSort leP)).Pairwise fun a b => pLt b a = false := by
  have := PySem.W.sort_pairwise leP_total ys
  refine this.imp fun {a b} h => ?_
  rw [leP_eq] at h
  simpa using h
theorem filter_perm_sum {ys zs : List V} (h : ys.Perm zs) : (ntsOf ys).sum = (ntsOf zs).sum := by
  have go : ∀ {as bs : List Int}, as.Perm bs → as.sum = bs.sum := by
    intro as bs p
    induction p with
    | nil => rfl
    | cons x _ ih => rw [List.sum_cons, List.sum_cons, ih]
    | swap x y l => rw [List.sum_cons, List.sum_cons, List.sum_cons, List.sum_cons]; omega
    | trans _ _ i1 i2 => exact i1.trans i2
  unfold ntsOf
  exact go ((h.filter isI).map iOf)
end Ask
namespace Ask
open PySem L2
open PySem.W (EachIs AllAlike Sortable dataLe)
theorem boot_bool : bootBuiltins ("bool" : Str) = some (.type "bool") := by decide +kernel
theorem boot_set : bootBuiltins ("set" : Str) = some (.type "set") := by decide +kernel
theorem boot_sum : bootBuiltins ("sum" : Str) = some (.builtin "sum") := by decide +kernel
theorem boot_min : bootBuiltins ("min" : Str) = some (.builtin "min") := by decide +kernel
theorem boot_max : bootBuiltins ("max" : Str) = some (.builtin "max") := by decide +kernel
section
variable {P : Program} {w : World} {K : PySem.W.Frag} {mg : Str → Option Value} {base : Heap}
/-! ### is_whole -/
def spWh : Sp := fun vs H Q _ => ∃ v, vs = [v] ∧ vOk v ∧ Q (.bl (isI v)) H
abbrev n_is_whole : List Str := ["thing"]
theorem sc_is_whole : FnScope n_is_whole ["thing"] (defScope sWhole) := ⟨rfl, rfl, rfl, by decide +kernel, rfl, by decide +kernel, by decide +kernel⟩
theorem ok_is_whole {f : Addr} {fd : FuncData} (F : Fun K "is_whole" "is_whole" sWhole f fd) (B : Blt mg) : FnOk P w K mg base CX0 1 f fd ["thing"] spWh := by
  refine F.ok sc_is_whole (fun vs H Q E h => ?_) (fun cdv A outer s H vs Q E hr h => ?_)
  · obtain ⟨v, rfl, _⟩ := h
    rfl
  · obtain ⟨v, rfl, hv, k⟩ := h
    refine ⟨_, pss_one (ps_ret (pe_and (pe_callB call_isi (by rfl) B.isi boot_isi (pa_cons (pv 0) (pa_cons (pe_bltn (v := .ty "int") (by rfl) B.int boot_int rfl) pa_nil))) (pe_one (pe_not (pe_callB call_isi (by rfl) B.isi boot_isi (pa_cons (pv 0) (pa_cons (pe_bltn (v := .ty "bool") (by rfl) B.bool boot_bool rfl) pa_nil))))))), ?_⟩
    cases v with
    | non => exact ⟨_, rfl, .non, .ty "int", .type "NoneType", .type "int", false, rfl, .ty _, .base .non, kit_ty (by decide +kernel), _, rfl, iteF k⟩
    | int i => exact ⟨_, rfl, .int i, .ty "int", .type "int", .type "int", true, rfl, .ty _, .base (.int i), kit_ty (by decide +kernel), _, rfl, iteT ⟨_, rfl, .int i, .ty "bool", .type "int", .type "bool", false, rfl, .ty _, .base (.int i), kit_ty (by decide +kernel), _, rfl, k⟩⟩
    | str z => exact ⟨_, rfl, .str z, .ty "int", .type "str", .type "int", false, rfl, .ty _, .base (.str z), kit_ty (by decide +kernel), _, rfl, iteF k⟩
    | _ => exact hv.elim
/-! ### reckon, _law_reckoned -/
def spRec : Sp := fun vs H Q _ => ∃ (n : Nat) (x y : V), vs = [.str (sg3 n), x, y] ∧ n < 3 ∧ vSm x ∧ vSm y ∧ ∀ H', Same H H' → Q (recV n x y) H'
theorem recV_int {n : Nat} {x y : V} (hx : isI x = true) (hy : isI y = true) : recV n x y = .int (rec3 n (iOf x) (iOf y)) := if_pos ⟨hx, hy⟩
theorem recV_non {n : Nat} {x y : V} (h : isI x = false ∨ isI y = false) : recV n x y = .non := if_neg fun e => by
  rcases h with h | h
  · rw [h] at e; exact Bool.false_ne_true e.1
  · rw [h] at e; exact Bool.false_ne_true e.2
theorem sm_mul {i j : Int} (hi : vSm (.int i)) (hj : vSm (.int j)) : CMulW i j := wide_mul (a := 70) (b := 70) hi hj (by decide) (by decide) (by decide)
abbrev n_reckon : List Str := ["sign", "one", "other"]
theorem sc_reckon : FnScope n_reckon ["sign", "one", "other"] (defScope sReckon) := ⟨rfl, rfl, rfl, by decide +kernel, rfl, by decide +kernel, by decide +kernel⟩
theorem ok_reckon {f : Addr} {fd : FuncData} (F : Fun K "reckon" "reckon" sReckon f fd) (B : Blt mg) (DW : Dn P w K mg base 1 "is_whole" ["thing"] spWh) : FnOk P w K mg base CX0 2 f fd ["sign", "one", "other"] spRec := by
  refine F.ok sc_reckon (fun vs H Q E h => ?_) (fun cdv A outer s H vs Q E hr h => ?_)
  · obtain ⟨n, x, y, rfl, _⟩ := h
    rfl
  · obtain ⟨n, x, y, rfl, hn, hx, hy, k⟩ := h
    have k := k H (Same.refl H)
    refine ⟨_, (pss_cons (ps_if (pw_or (pt_not (pt_val (pe_dn DW hr (by rfl) (pa_cons (pv 1) pa_nil)))) (pw_or1 (pt_not (pt_val (pe_dn DW hr (by rfl) (pa_cons (pv 2) pa_nil)))))).pt (pss_one (ps_ret pe_non)) pss_nil)
      (pss_cons (ps_if (pt_cmpR op_eq (pv 0) pe_str (nomark _)) (pss_one (ps_ret (pe_op op_add (pv 1) (pv 2)))) pss_nil)
      (pss_one (ps_ret (pe_ifExp (pt_cmpR op_eq (pv 0) pe_str (nomark _)) (pe_op op_sub (pv 1) (pv 2)) (pe_op op_mulW (pv 1) (pv 2))))))), ?_⟩
    refine ⟨_, rfl, x, rfl, hx.ok, _, rfl, ?_⟩
    cases ex : isI x with
    | false =>
      rw [recV_non (.inl ex)] at k
      exact iteT (iteT k)
    | true =>
    refine iteF ⟨_, rfl, y, rfl, hy.ok, _, rfl, ?_⟩
    cases ey : isI y with
    | false =>
      rw [recV_non (.inr ey)] at k
      exact iteT k
    | true =>
    refine iteF ?_
    rw [recV_int ex ey] at k
    cases x with
    | int i =>
      cases y with
      | int j =>
        have : n = 0 ∨ n = 1 ∨ n = 2 := by omega
        rcases this with rfl | rfl | rfl
        · exact ⟨_, rfl, rfl, _, rfl, ifT (by decide +kernel) ⟨_, rfl, _, rfl, i, j, rfl, rfl, k⟩⟩
        · exact ⟨_, rfl, rfl, _, rfl, ifF (by decide +kernel) ⟨_, rfl, rfl, _, rfl, ifT (by decide +kernel) ⟨_, rfl, _, rfl, i, j, rfl, rfl, k⟩⟩⟩
        · exact ⟨_, rfl, rfl, _, rfl, ifF (by decide +kernel) ⟨_, rfl, rfl, _, rfl, ifF (by decide +kernel) ⟨_, rfl, _, rfl, i, j, rfl, rfl, sm_mul hx hy, k⟩⟩⟩
      | _ => cases ey
    | _ => cases ex
abbrev n_law_reckoned : List Str := ["_law_sign", "_law_one", "_law_other"]
theorem sc_law_reckoned : FnScope n_law_reckoned ["_law_sign", "_law_one", "_law_other"] (defScope sReckd) := ⟨rfl, rfl, rfl, by decide +kernel, rfl, by decide +kernel, by decide +kernel⟩
theorem ok_law_reckoned {f : Addr} {fd : FuncData} (F : Fun K "_law_reckoned" "_law_reckoned" sReckd f fd) (B : Blt mg) : FnOk P w K mg base CX0 1 f fd ["_law_sign", "_law_one", "_law_other"] spRec := by
  refine F.ok sc_law_reckoned (fun vs H Q E h => ?_) (fun cdv A outer s H vs Q E hr h => ?_)
  · obtain ⟨n, x, y, rfl, _⟩ := h
    rfl
  · obtain ⟨n, x, y, rfl, hn, hx, hy, k⟩ := h
    have hu3 : (A.deeper (PyProof.Rows.envOfC "_law_reckoned" (defScope sReckd) s.heap.objs.size f cdv)).units + 1 < cLine := by have := hr.un; omega
    refine ⟨_, pss_cons (ps_if (pw_or (pt_not (pt_val (pe_callB call_isi (by rfl) B.isi boot_isi (pa_cons (pv 1) (pa_cons (pe_bltn (v := .ty "int") (by rfl) B.int boot_int rfl) pa_nil))))) (pw_or1 (pt_not (pt_val (pe_callB call_isi (by rfl) B.isi boot_isi (pa_cons (pv 2) (pa_cons (pe_bltn (v := .ty "int") (by rfl) B.int boot_int rfl) pa_nil))))))).pt (pss_one (ps_ret pe_non)) pss_nil)
      (pss_one (ps_ret (pe_dget hu3 (pe_disp (pps_cons pe_str (pe_op op_add (pv 1) (pv 2)) (pps_cons pe_str (pe_op op_sub (pv 1) (pv 2)) (pps_cons pe_str (pe_op op_mulW (pv 1) (pv 2)) pps_nil))) rfl rfl (by intro z; cases z) (by decide)) (pv 0) (fun _ _ => rfl)))), ?_⟩
    have tx : ∀ {v : V}, vSm v → ∃ t, TyX K H v (.type t) ∧ kitB t "int" = some (isI v) := fun {v} hv => by
      cases v with
      | non => exact ⟨"NoneType", .base .non, by decide +kernel⟩
      | int i => exact ⟨"int", .base (.int i), by show kitB "int" "int" = some true; decide +kernel⟩
      | str z => exact ⟨"str", .base (.str z), by show kitB "str" "int" = some false; decide +kernel⟩
      | _ => exact hv.elim
    obtain ⟨t1, ty1, kt1⟩ := tx hx
    obtain ⟨t2, ty2, kt2⟩ := tx hy
    refine ⟨_, rfl, x, .ty "int", .type t1, .type "int", isI x, rfl, .ty _, ty1, kit_ty kt1, _, rfl, ?_⟩
    cases ex : isI x with
    | false =>
      have k := k H (Same.refl H)
      rw [recV_non (.inl ex)] at k
      exact iteT (iteT k)
    | true =>
    refine iteF ⟨_, rfl, y, .ty "int", .type t2, .type "int", isI y, rfl, .ty _, ty2, kit_ty kt2, _, rfl, ?_⟩
    cases ey : isI y with
    | false =>
      have k := k H (Same.refl H)
      rw [recV_non (.inr ey)] at k
      exact iteT k
    | true =>
    refine iteF ?_
    rw [recV_int ex ey] at k
    cases x with
    | int i =>
      cases y with
      | int j =>
        intro q hq
        refine ⟨_, rfl, _, rfl, i, j, rfl, rfl, ?_⟩
        refine ⟨_, rfl, _, rfl, i, j, rfl, rfl, ?_⟩
        refine ⟨_, rfl, _, rfl, i, j, rfl, rfl, sm_mul hx hy, ?_⟩
        refine ⟨upd_same, [(.inr "+", _), (.inr "-", _), (.inr "*", _)], rfl, by show 3 ≤ 15; decide, _, rfl, q, .int (rec3 n i j), rfl, .inl ⟨_, .inr (sg3 n), .inl upd_same, rfl, (three_get (f := fun n => .int (rec3 n i j)) hn rfl rfl rfl).symm⟩, ?_⟩
        exact k _ (fun b u e => by rw [upd_ne (ne_of_none e hq), upd_ne (ne_of_none e hq)]; exact e)
      | _ => cases ey
    | _ => cases ex
end
end Ask
namespace Ask
open PySem L2
open PySem.W (EachIs AllAlike Sortable dataLe)
section
variable {P : Program} {w : World} {K : PySem.W.Frag} {mg : Str → Option Value} {base : Heap}
/-! ### aggregate, _law_totalled -/
def spAgg (K : PySem.W.Frag) : Sp := fun vs H Q _ => ∃ (n : Nat) (a : Addr) (ys : List V) (b : Bool), vs = [.str (wdAt n), .ref a, .bl b] ∧ n < 4 ∧ SqL K H a ys ∧ (∀ y ∈ ys, vOk y) ∧ ys.length ≤ 100 ∧ ∀ v H', Same H H' → AggIs n b ys v → Q v H'
theorem filter_take {ys : List V} {p : V → Bool} {i : Nat} {x : V} (h : ys[i]? = some x) : (ys.take (i + 1)).filter p = if p x = true then (ys.take i).filter p ++ [x] else (ys.take i).filter p := by
  rw [List.take_add_one, h, List.filter_append]
  show _ ++ [x].filter p = _
  cases e : p x with
  | true => rw [List.filter_cons_of_pos e, if_pos rfl]; rfl
  | false => rw [List.filter_cons_of_neg (by rw [e]; exact Bool.false_ne_true), if_neg Bool.false_ne_true]; exact List.append_nil _
theorem filter_line {ys : List V} {p : V → Bool} {i : Nat} (h : ys.length ≤ 100) : ((ys.take i).filter p).length < sizeLine := by
  refine small1000 (n := ((ys.take i).filter p).length) ?_
  have h1 := List.length_filter_le p (ys.take i)
  rw [List.length_take] at h1
  omega
theorem nts_tld (ys : List V) : ntsOf (tld ys) = ntsOf ys := by
  unfold ntsOf tld
  rw [List.filter_filter]
  congr 1
  refine List.filter_congr fun y _ => ?_
  cases y <;> rfl
abbrev n_aggregate : List Str := ["word", "values", "distinct", "told", "numbers", "value"]
theorem sc_aggregate : FnScope n_aggregate ["word", "values", "distinct"] (defScope sAgg) := ⟨rfl, rfl, rfl, by decide +kernel, rfl, by decide +kernel, by decide +kernel⟩
theorem ok_aggregate {f : Addr} {fd : FuncData} {dvs : List V} {kws : List (Str × V)} (F : FunD K "aggregate" "aggregate" (defArgs sAgg) (defBody sAgg) (defScope sAgg) dvs kws f fd) (B : Blt mg) (DW : Dn P w K mg base 1 "is_whole" ["thing"] spWh) (DPl : Dn P w K mg base 1 "value_place" ["value"] spPlace) :
    FnOk P w K mg base CX0 3 f fd ["word", "values", "distinct"] (spAgg K) := by
  refine F.ok sc_aggregate (fun vs H Q E h => ?_) (fun cdv A outer s H vs Q E hr h => ?_)
  · obtain ⟨n, a, ys, b, rfl, _⟩ := h
    rfl
  · obtain ⟨n, a, ys, b, rfl, hn, ha, hv, hl, k⟩ := h
    have hr1 : Room 1 _ := hr.mono (by decide)
    obtain ⟨fk, fdk, hmk, hkk, hbk, Fk⟩ := DPl.ex
    refine ⟨_, (pss_cons (ps_setLc (i := 3) (own := [("value", 5)]) (g := gName 5) (by rfl) sc_aggregate.nd rfl rfl (sw_true rfl rfl rfl (by decide +kernel)) (pi_list (pv 1)) (blkOk_by (own := [("value", 5)]) (N := n_aggregate) (sc := (defScope sAgg)) (by decide +kernel)) (fun _ _ _ _ _ => pg_name (i := 5) sc_aggregate.nd rfl (Or.inl rfl)) (fun _ _ _ _ _ => pts_one (pt_cmpR op_notN (pv 5) pe_non (nomark _))) (fun _ _ _ _ _ => (pv 5)))
      (pss_cons (ps_if (pt_cmpR op_eq (pv 0) pe_str (nomark _)) (pss_one (ps_ret (pe_ifExp (pt_val (pv 2)) (pe_callB cr_lenSetK (by rfl) B.len PySem.boot_len (pa_cons (pe_callTy (cr_setMix hr.hd) (by rfl) B.set boot_set (pa_cons (pv 3) pa_nil)) pa_nil)) (pe_callB call_len (by rfl) B.len PySem.boot_len (pa_cons (pv 3) pa_nil))))) pss_nil)
      (pss_cons (ps_if (pt_cmpR op_eq (pv 0) pe_str (nomark _)) (pss_cons (ps_setLc (i := 4) (own := [("value", 5)]) (g := gName 5) (by rfl) sc_aggregate.nd rfl rfl (sw_true rfl rfl rfl (by decide +kernel)) (pi_list (pv 3)) (blkOk_by (own := [("value", 5)]) (N := n_aggregate) (sc := (defScope sAgg)) (by decide +kernel)) (fun _ _ _ _ _ => pg_name (i := 5) sc_aggregate.nd rfl (Or.inl rfl)) (fun _ _ _ _ _ => pts_one (pt_val (pe_dn DW hr1 (by rfl) (pa_cons (pv 5) pa_nil)))) (fun _ _ _ _ _ => (pv 5)))
      (pss_one (ps_ret (pe_ifExp (pt_cmpR op_gt (pe_callB call_len (by rfl) B.len PySem.boot_len (pa_cons (pv 4) pa_nil)) pe_int (nomark _)) (pe_callB (cr_sum rfl) (by rfl) B.sum boot_sum (pa_cons (pv 4) pa_nil)) pe_non)))) pss_nil)
      (pss_cons (ps_if (pt_cmpR op_eq (pe_callB call_len (by rfl) B.len PySem.boot_len (pa_cons (pv 3) pa_nil)) pe_int (nomark _)) (pss_one (ps_ret pe_non)) pss_nil)
      (pss_one (ps_ret (pe_ifExp (pt_cmpR op_eq (pv 0) pe_str (nomark _)) (pe_callBK (cr_minK (fnR_of hbk Fk) hr) (by rfl) B.min boot_min (pa_cons (pv 3) pa_nil) (pk_cons (pe_glob (v := .ref fk) (by rfl) hmk rfl) pk_nil)) (pe_callBK (cr_maxK (fnR_of hbk Fk) hr) (by rfl) B.max boot_max (pa_cons (pv 3) pa_nil) (pk_cons (pe_glob (v := .ref fk) (by rfl) hmk rfl) pk_nil))))))))), ?_⟩
    refine ⟨_, rfl, a, rfl, ⟨_, ha⟩, fun D hD => ?_⟩
    refine lc_list (K := K) (a := a) (xs := ys) (vs := [5]) (fun i H1 => Same H H1 ∧ H1 D = some (.lst ((ys.take i).filter nnV))) ⟨same_new hD _, upd_same⟩ (fun i H1 _ q => ?g1) ?g2 ?g3
    case g1 => exact Same.seq q.1 ha
    case g2 =>
      rintro i x H1 hx ⟨s1, hD1⟩
      refine ⟨rfl, _, rfl, rfl, _, rfl, ?_⟩
      have ft := filter_take (p := nnV) hx
      unfold nnV at ft
      cases e : (!decide (x = V.non)) with
      | true =>
        rw [e, if_pos rfl] at ft
        exact iteT ⟨_, rfl, _, hD1, filter_line hl, same_fresh (Same.refl _) hD s1 _, by rw [upd_same]; unfold nnV; rw [ft]⟩
      | false =>
        rw [e, if_neg Bool.false_ne_true] at ft
        exact iteF ⟨s1, by unfold nnV at hD1 ⊢; rw [ft]; exact hD1⟩
    case g3 =>
    rintro H1 ⟨s1, hD1⟩
    rw [List.take_length] at hD1
    change H1 D = some (.lst (tld ys)) at hD1
    have ht : SqL K H1 D (tld ys) := SqL.of hD1
    have tl := tld_len ys
    have go : n = 0 ∨ n = 1 ∨ n = 2 ∨ n = 3 := by omega
    rcases go with rfl | rfl | rfl | rfl
    · refine ⟨_, rfl, rfl, _, rfl, ifT (by decide +kernel) ?_⟩
      refine ⟨_, rfl, b, rfl, ?_⟩
      cases b with
      | true =>
        refine iteT ⟨_, rfl, D, (tld ys).map kOf, rfl, (by rw [keys_map (tld_ok hv) tld_nn]; exact ht), (by rw [List.length_map]; omega), fun p hp => ?_⟩
        refine ⟨p, _, _, rfl, upd_same, k _ _ (s1.trans (same_new hp _)) ?_⟩
        rfl
      | false => exact iteF ⟨_, rfl, .ref D, _, rfl, .inl ⟨_, ht, rfl⟩, k _ _ s1 rfl⟩
    · refine ⟨_, rfl, rfl, _, rfl, ifF (by decide +kernel) ⟨_, rfl, rfl, _, rfl, ifT (by decide +kernel) ?_⟩⟩
      refine ⟨_, rfl, D, rfl, ⟨_, ht⟩, fun N hN => ?_⟩
      refine lc_list (K := K) (a := D) (xs := tld ys) (vs := [5]) (fun i H2 => Same H1 H2 ∧ H2 N = some (.lst (((tld ys).take i).filter isI))) ⟨same_new hN _, upd_same⟩ (fun i H2 _ q => ?g4) ?g5 ?g6
      case g4 => exact Same.seq q.1 ht
      case g5 =>
        rintro i x H2 hx ⟨s2, hN2⟩
        have hxv := tld_ok hv x (List.mem_of_getElem? hx)
        refine ⟨rfl, _, rfl, x, rfl, hxv, _, rfl, ?_⟩
        have ft := filter_take (p := isI) hx
        cases e : isI x with
        | true =>
          rw [e, if_pos rfl] at ft
          exact iteT ⟨_, rfl, _, hN2, filter_line (Nat.le_trans tl hl), same_fresh (Same.refl _) hN s2 _, by rw [upd_same, ft]⟩
        | false =>
          rw [e, if_neg Bool.false_ne_true] at ft
          exact iteF ⟨s2, by rw [ft]; exact hN2⟩
      case g6 =>
      rintro H2 ⟨s2, hN2⟩
      rw [List.take_length, nts_map, nts_tld] at hN2
      have hN3 : SqL K H2 N ((ntsOf ys).map V.int) := SqL.of hN2
      refine ⟨_, rfl, .ref N, _, rfl, .inl ⟨_, hN3, rfl⟩, _, _, rfl, rfl, _, rfl, ?_⟩
      rw [List.length_map]
      cases e : ntsOf ys with
      | nil => exact iteF (k _ _ (s1.trans s2) (by show _ = _; rw [e]; rfl))
      | cons i r =>
        rw [e] at hN3
        refine ifT (decide_eq_true (by rw [List.length_cons]; omega)) ⟨_, rfl, N, _, rfl, hN3, k _ _ (s1.trans s2) ?_⟩
        show _ = _
        rw [e, if_neg (by intro q; cases q)]
    · refine ⟨_, rfl, rfl, _, rfl, ifF (by decide +kernel) ⟨_, rfl, rfl, _, rfl, ifF (by decide +kernel) ?_⟩⟩
      refine ⟨_, rfl, .ref D, _, rfl, .inl ⟨_, ht, rfl⟩, rfl, _, rfl, ?_⟩
      cases e : tld ys with
      | nil => exact ifT (by rfl) (k _ _ s1 (.inl ⟨e, rfl⟩))
      | cons y r =>
        refine ifF (decide_eq_false (by rw [List.length_cons]; intro q; injection q with q; omega)) ?_
        refine ⟨_, rfl, rfl, _, rfl, ifT (by decide +kernel) ⟨_, rfl, D, tld ys, rfl, rfl, ht, by rw [e]; exact Nat.succ_pos _, tld_ok hv, fun H2 z s2 hz hm => k _ _ (s1.trans s2) (.inr ⟨hz, hm⟩)⟩⟩
    · refine ⟨_, rfl, rfl, _, rfl, ifF (by decide +kernel) ⟨_, rfl, rfl, _, rfl, ifF (by decide +kernel) ?_⟩⟩
      refine ⟨_, rfl, .ref D, _, rfl, .inl ⟨_, ht, rfl⟩, rfl, _, rfl, ?_⟩
      cases e : tld ys with
      | nil => exact ifT (by rfl) (k _ _ s1 (.inl ⟨e, rfl⟩))
      | cons y r =>
        refine ifF (decide_eq_false (by rw [List.length_cons]; intro q; injection q with q; omega)) ?_
        refine ⟨_, rfl, rfl, _, rfl, ifF (by decide +kernel) ⟨_, rfl, D, tld ys, rfl, rfl, ht, by rw [e]; exact Nat.succ_pos _, tld_ok hv, fun H2 z s2 hz hm => k _ _ (s1.trans s2) (.inr ⟨hz, fun u hu => hm u hu⟩)⟩⟩
end
end Ask
namespace Ask
open PySem L2
open PySem.W (EachIs AllAlike Sortable dataLe)
section
open PySem.W PyProof.Rows
theorem pLt_irr (y : V) : pLt y y = false := by
  rw [← lt_pl]
  exact (listOrd itemOrd).irrefl (keyToks (plD y))
end
theorem at_last {xs : List V} {v : V} : atI (xs ++ [v]) (-1) = some v := by
  unfold atI ixN
  rw [List.length_append, List.length_singleton, if_neg (by decide), if_pos (by omega)]
  show (xs ++ [v])[((-1 : Int) + ((xs.length + 1 : Nat) : Int)).toNat]? = some v
  rw [show ((-1 : Int) + ((xs.length + 1 : Nat) : Int)).toNat = xs.length by omega, List.getElem?_append_right (Nat.le_refl _), Nat.sub_self]
  rfl
section
variable {ys : List V}
theorem srt_perm : ((tld ys).mergeSort leP).Perm (tld ys) := List.mergeSort_perm _ _
theorem srt_ok (hv : ∀ y ∈ ys, vOk y) : ∀ y ∈ (tld ys).mergeSort leP, vOk y := fun y hy => tld_ok hv y (srt_perm.subset hy)
theorem srt_nn : ∀ y ∈ (tld ys).mergeSort leP, nnV y = true := fun y hy => tld_nn y (srt_perm.subset hy)
theorem srt_head {x : V} {r : List V} (h : (tld ys).mergeSort leP = x :: r) : x ∈ tld ys ∧ ∀ z ∈ tld ys, pLt z x = false := by
  have p := srt_perm (ys := ys)
  have pw := le_pair (ys := tld ys)
  rw [h] at p pw
  refine ⟨p.subset (.head _), fun z hz => ?_⟩
  rcases List.mem_cons.mp (p.symm.subset hz) with rfl | hz
  · exact pLt_irr _
  · exact (List.pairwise_cons.mp pw).1 z hz
theorem srt_last {x : V} {r : List V} (h : (tld ys).mergeSort leP = r ++ [x]) : x ∈ tld ys ∧ ∀ z ∈ tld ys, pLt x z = false := by
  have p := srt_perm (ys := ys)
  have pw := le_pair (ys := tld ys)
  rw [h] at p pw
  refine ⟨p.subset (List.mem_append_right _ (.head _)), fun z hz => ?_⟩
  rcases List.mem_append.mp (p.symm.subset hz) with hz | hz
  · exact (List.pairwise_append.mp pw).2.2 z hz x (.head _)
  · rw [List.mem_singleton.mp hz]; exact pLt_irr _
theorem srt_nil (h : (tld ys).mergeSort leP = []) : tld ys = [] := by
  have p := srt_perm (ys := ys)
  rw [h] at p
  exact p.symm.eq_nil
end
section
variable {P : Program} {w : World} {K : PySem.W.Frag} {mg : Str → Option Value} {base : Heap}
abbrev n_law_totalled : List Str := ["_law_word", "_law_values", "_law_is_distinct", "_law_known", "_law_value_here"]
theorem sc_law_totalled : FnScope n_law_totalled ["_law_word", "_law_values", "_law_is_distinct"] (defScope sTotd) := ⟨rfl, rfl, rfl, by decide +kernel, rfl, by decide +kernel, by decide +kernel⟩
theorem ok_law_totalled {f : Addr} {fd : FuncData} (F : Fun K "_law_totalled" "_law_totalled" sTotd f fd) (B : Blt mg) (DO : Dn P w K mg base 1 "_law_order" ["_law_value_here"] spPlace) : FnOk P w K mg base CX0 3 f fd ["_law_word", "_law_values", "_law_is_distinct"] (spAgg K) := by
  refine F.ok sc_law_totalled (fun vs H Q E h => ?_) (fun cdv A outer s H vs Q E hr h => ?_)
  · obtain ⟨n, a, ys, b, rfl, _⟩ := h
    rfl
  · obtain ⟨n, a, ys, b, rfl, hn, ha, hv, hl, k⟩ := h
    obtain ⟨fk, fdk, hmk, hkk, hbk, Fk⟩ := DO.ex
    refine ⟨_, (pss_cons (ps_set (i := 3) sc_law_totalled.nd rfl (Or.inl rfl) (pe_callBK (cr_sortK (fnR_of hbk Fk) hr) (by rfl) B.sorted boot_sorted (pa_cons (pe_lc (own := [("_law_value_here", 4)]) (g := gName 4) rfl sc_law_totalled.nd (pi_list (pv 1)) (blkOk_by (own := [("_law_value_here", 4)]) (N := n_law_totalled) (sc := (defScope sTotd)) (by decide +kernel)) (fun _ _ _ _ _ => pg_name (i := 4) sc_law_totalled.nd rfl (Or.inl rfl)) (fun _ _ _ _ _ => pts_one (pt_cmpR op_notN (pv 4) pe_non (nomark _))) (fun _ _ _ _ _ => (pv 4))) pa_nil) (pk_cons (pe_glob (v := .ref fk) (by rfl) hmk rfl) pk_nil)))
      (pss_cons (ps_if (pt_cmpR op_eq (pv 0) pe_str (nomark _)) (pss_one (ps_ret (pe_ifExp (pt_val (pv 2)) (pe_callB cr_lenSetK (by rfl) B.len PySem.boot_len (pa_cons (pe_callTy (cr_setMix hr.hd) (by rfl) B.set boot_set (pa_cons (pv 3) pa_nil)) pa_nil)) (pe_callB call_len (by rfl) B.len PySem.boot_len (pa_cons (pv 3) pa_nil))))) pss_nil)
      (pss_cons (ps_if (pt_cmpR op_eq (pv 0) pe_str (nomark _)) (pss_cons (ps_setLc (i := 3) (own := [("_law_value_here", 4)]) (g := gName 4) (by rfl) sc_law_totalled.nd rfl rfl (sw_true rfl rfl rfl (by decide +kernel)) (pi_list (pv 3)) (blkOk_by (own := [("_law_value_here", 4)]) (N := n_law_totalled) (sc := (defScope sTotd)) (by decide +kernel)) (fun _ _ _ _ _ => pg_name (i := 4) sc_law_totalled.nd rfl (Or.inl rfl)) (fun _ _ _ _ _ => pts_one (pt_val (pe_callB (r := rIsi K) call_isi (by rfl) B.isi boot_isi (pa_cons (pv 4) (pa_cons (pe_bltn (v := .ty "int") (by rfl) B.int boot_int rfl) pa_nil))))) (fun _ _ _ _ _ => (pv 4)))
      (pss_one (ps_ret (pe_ifExp (pt_cmpR (op_neD hr.units) (pv 3) (pe_lst pa_nil) (nomark _)) (pe_callB (cr_sum rfl) (by rfl) B.sum boot_sum (pa_cons (pv 3) pa_nil)) pe_non)))) pss_nil)
      (pss_one (ps_ret (pe_ifExp (pt_cmpR op_eq (pv 0) pe_str (nomark _)) (pe_ix (r := rIxL K) ix_list (pe_op op_cat (pv 3) (pe_lst (pa_cons pe_non pa_nil))) pe_int (fun _ _ => rfl)) (pe_ix (r := rIxL K) ix_list (pe_op op_cat (pe_lst (pa_cons pe_non pa_nil)) (pv 3)) (pe_un un_neg pe_int) (fun _ _ => rfl)))))))), ?_⟩
    refine ⟨_, rfl, a, rfl, ⟨_, ha⟩, fun D hD => ?_⟩
    refine lc_list (K := K) (a := a) (xs := ys) (vs := [4]) (fun i H1 => Same H H1 ∧ H1 D = some (.lst ((ys.take i).filter nnV))) ⟨same_new hD _, upd_same⟩ (fun i H1 _ q => ?g1) ?g2 ?g3
    case g1 => exact Same.seq q.1 ha
    case g2 =>
      rintro i x H1 hx ⟨s1, hD1⟩
      refine ⟨rfl, _, rfl, rfl, _, rfl, ?_⟩
      have ft := filter_take (p := nnV) hx
      unfold nnV at ft
      cases e : (!decide (x = V.non)) with
      | true =>
        rw [e, if_pos rfl] at ft
        exact iteT ⟨_, rfl, _, hD1, filter_line hl, same_fresh (Same.refl _) hD s1 _, by rw [upd_same]; unfold nnV; rw [ft]⟩
      | false =>
        rw [e, if_neg Bool.false_ne_true] at ft
        exact iteF ⟨s1, by unfold nnV at hD1 ⊢; rw [ft]; exact hD1⟩
    case g3 =>
    rintro H1 ⟨s1, hD1⟩
    rw [List.take_length] at hD1
    change H1 D = some (.lst (tld ys)) at hD1
    have tl := tld_len ys
    refine ⟨D, tld ys, plD, rfl, rfl, .inl (SqL.of hD1), vals_alike _, .inl (vals_sort _), fun y _ => plD_depth y, fun y hy H' s' => ⟨y, rfl, tld_ok hv y hy, fun p hp => ⟨same_new hp _, pl_dp (SqT.of upd_same)⟩⟩, fun H2 L s2 hL => ?_⟩
    change tNext _ _ (L2.upd H2 L (.lst ((tld ys).mergeSort leP)))
    have s3 := (s1.trans s2).trans (same_new hL (.lst ((tld ys).mergeSort leP)))
    have hL3 : (L2.upd H2 L (.lst ((tld ys).mergeSort leP))) L = some (.lst ((tld ys).mergeSort leP)) := upd_same
    generalize L2.upd H2 L (.lst ((tld ys).mergeSort leP)) = H3 at s3 hL3 ⊢
    have pm := srt_perm (ys := ys)
    have so := srt_ok hv
    have sn := srt_nn (ys := ys)
    have sh := fun x r => srt_head (ys := ys) (x := x) (r := r)
    have sl := fun x r => srt_last (ys := ys) (x := x) (r := r)
    have s0 := srt_nil (ys := ys)
    generalize (tld ys).mergeSort leP = S at pm so sn sh sl s0 hL3 ⊢
    have ls := pm.length_eq
    have ht : SqL K H3 L S := SqL.of hL3
    have go : n = 0 ∨ n = 1 ∨ n = 2 ∨ n = 3 := by omega
    rcases go with rfl | rfl | rfl | rfl
    · refine ⟨_, rfl, rfl, _, rfl, ifT (by decide +kernel) ?_⟩
      refine ⟨_, rfl, b, rfl, ?_⟩
      cases b with
      | true =>
        refine iteT ⟨_, rfl, L, S.map kOf, rfl, (by rw [keys_map so sn]; exact ht), (by rw [List.length_map]; omega), fun p hp => ?_⟩
        refine ⟨p, _, _, rfl, upd_same, k _ _ (s3.trans (same_new hp _)) ?_⟩
        show V.int _ = V.int _
        rw [distK_perm (pm.map kOf)]
        rfl
      | false =>
        refine iteF ⟨_, rfl, .ref L, _, rfl, .inl ⟨_, ht, rfl⟩, k _ _ s3 ?_⟩
        show V.int _ = V.int _
        rw [ls]
        rfl
    · refine ⟨_, rfl, rfl, _, rfl, ifF (by decide +kernel) ⟨_, rfl, rfl, _, rfl, ifT (by decide +kernel) ?_⟩⟩
      refine ⟨_, rfl, L, rfl, ⟨_, ht⟩, fun N hN => ?_⟩
      refine lc_list (K := K) (a := L) (xs := S) (vs := [4]) (fun i H2 => Same H3 H2 ∧ H2 N = some (.lst ((S.take i).filter isI))) ⟨same_new hN _, upd_same⟩ (fun i H2 _ q => ?g4) ?g5 ?g6
      case g4 => exact Same.seq q.1 ht
      case g5 =>
        rintro i x H2 hx ⟨s2, hN2⟩
        have hxv := so x (List.mem_of_getElem? hx)
        have tx : ∃ t, TyX K H2 x (.type t) ∧ kitB t "int" = some (isI x) := by
          cases x with
          | non => exact ⟨"NoneType", .base .non, by decide +kernel⟩
          | int i => exact ⟨"int", .base (.int i), by show kitB "int" "int" = some true; decide +kernel⟩
          | str z => exact ⟨"str", .base (.str z), by show kitB "str" "int" = some false; decide +kernel⟩
          | _ => exact hxv.elim
        obtain ⟨t1, ty1, kt1⟩ := tx
        refine ⟨rfl, _, rfl, x, .ty "int", .type t1, .type "int", isI x, rfl, .ty _, ty1, kit_ty kt1, _, rfl, ?_⟩
        have ft := filter_take (p := isI) hx
        cases e : isI x with
        | true =>
          rw [e, if_pos rfl] at ft
          exact iteT ⟨_, rfl, _, hN2, filter_line (by omega), same_fresh (Same.refl _) hN s2 _, by rw [upd_same, ft]⟩
        | false =>
          rw [e, if_neg Bool.false_ne_true] at ft
          exact iteF ⟨s2, by rw [ft]; exact hN2⟩
      case g6 =>
      rintro H4 ⟨s4, hN4⟩
      rw [List.take_length, nts_map] at hN4
      have es : (ntsOf S).sum = (ntsOf ys).sum := by rw [filter_perm_sum pm, nts_tld]
      have el : (ntsOf S).length = (ntsOf ys).length := by
        rw [← nts_tld ys]
        unfold ntsOf
        rw [List.length_map, List.length_map]
        exact (pm.filter isI).length_eq
      refine ⟨_, rfl, by show 0 ≤ sizeLine; decide, fun q hq => ?_⟩
      have nNq : N ≠ q := ne_of_none hN4 hq
      have hN5 : SqL K (L2.upd H4 q (.lst [])) N ((ntsOf S).map V.int) := SqL.of (by rw [upd_ne nNq]; exact hN4)
      refine ⟨_, _, .lst hN5 (ints_dpI _), .lst (SqL.of upd_same) .nil, ints_shapedI _, nil_shaped, _, rfl, ?_⟩
      rw [eqv_nil]
      have s5 := (s3.trans s4).trans (same_new hq (.lst []))
      cases e : ntsOf S with
      | nil =>
        refine ifF rfl (k _ _ s5 ?_)
        show _ = _
        rw [e] at el
        rw [List.length_eq_zero_iff.mp el.symm]
        rfl
      | cons i r =>
        rw [e] at hN5
        refine ifT rfl ⟨_, rfl, N, _, rfl, hN5, k _ _ s5 ?_⟩
        show _ = _
        rw [← es, e, if_neg (by intro q; rw [q, e] at el; cases el)]
    · refine ⟨_, rfl, rfl, _, rfl, ifF (by decide +kernel) ⟨_, rfl, rfl, _, rfl, ifF (by decide +kernel) ?_⟩⟩
      refine ⟨_, rfl, rfl, _, rfl, ifT (by decide +kernel) ?_⟩
      refine ⟨_, rfl, by show 1 ≤ sizeLine; decide, fun l2 hl2 => ⟨L, l2, _, [.non], rfl, rfl, same_new hl2 _ _ _ hL3, upd_same, line1000 (by show S.length + 1 ≤ 1000; omega), fun l3 hl3 => ?_⟩⟩
      have s5 := (s3.trans (same_new hl2 (.lst [.non]))).trans (same_new hl3 (.lst (S ++ [.non])))
      cases e : S with
      | nil => exact ⟨l3, _, _, .non, rfl, rfl, SqL.of upd_same, at_of (j := 0) rfl rfl, by subst e; exact k _ _ s5 (.inl ⟨s0 rfl, rfl⟩)⟩
      | cons x r => exact ⟨l3, _, _, x, rfl, rfl, SqL.of upd_same, at_of (j := 0) rfl rfl, by subst e; exact k _ _ s5 (.inr (sh x r rfl))⟩
    · refine ⟨_, rfl, rfl, _, rfl, ifF (by decide +kernel) ⟨_, rfl, rfl, _, rfl, ifF (by decide +kernel) ?_⟩⟩
      refine ⟨_, rfl, rfl, _, rfl, ifF (by decide +kernel) ?_⟩
      refine ⟨by show 1 ≤ sizeLine; decide, fun l2 hl2 => ⟨_, rfl, l2, L, [.non], _, rfl, rfl, upd_same, same_new hl2 _ _ _ hL3, line1000 (by show 1 + S.length ≤ 1000; omega), fun l3 hl3 => ?_⟩⟩
      have s5 := (s3.trans (same_new hl2 (.lst [.non]))).trans (same_new hl3 (.lst ([.non] ++ S)))
      refine ⟨1, rfl, ?_⟩
      rcases List.eq_nil_or_concat S with e | ⟨r, x, e⟩
      · subst e
        exact ⟨l3, _, _, .non, rfl, rfl, SqL.of upd_same, at_last (xs := []), k _ _ s5 (.inl ⟨s0 rfl, rfl⟩)⟩
      · rw [List.concat_eq_append] at e
        subst e
        exact ⟨l3, _, _, x, rfl, rfl, SqL.of upd_same, (by rw [← List.append_assoc]; exact at_last), k _ _ s5 (.inr (sl x r rfl))⟩
end
end Ask
namespace Ask
open PySem L2
/-! ### values, written -/
def RepOk (d : PyData) : Prop := d.showable = true ∧ d.hasDict = false ∧ d.depth ≤ 20 ∧ d.shown.length ≤ 100000
def vD : V → PyData
  | .int i => .int i
  | .str z => .str z
  | _ => .none
theorem v_dp {K : PySem.W.Frag} {H : Hp} {v : V} (h : vOk v) : Dp K H v (vD v) := by
  cases v with
  | non => exact .non
  | int i => exact .int i
  | str z => exact .str z
  | _ => exact h.elim
theorem vs_dp {K : PySem.W.Frag} {H : Hp} : ∀ {xs : List V}, (∀ x ∈ xs, vOk x) → DpAll K H xs (xs.map vD)
  | [], _ => .nil
  | x :: xs, h => .cons (v_dp (h x (.head _))) (vs_dp fun y hy => h y (.tail _ hy))
theorem log_lt {i : Int} {k : Nat} (hk : 0 < k) (h : i.natAbs < 2 ^ k) : i.natAbs.log2 < k := PySem.Flt.log2_lt_of hk h
theorem int_short {i : Int} {k : Nat} (hk : 0 < k) (h : i.natAbs < 2 ^ k) : (PyData.shown (.int i)).length ≤ k + 1 := by
  show (Str.ofString (toString i)).length ≤ _
  rw [PySem.ofString_length]
  exact int_text_length_le hk (log_lt hk h)
theorem int_weight {i : Int} {k : Nat} (hk : 0 < k) (h : i.natAbs < 2 ^ k) : (PyData.int i).weight ≤ k := by
  have := log_lt hk h
  unfold PyData.weight
  split <;> omega
theorem str_short {z : Str} (h : PyData.strOk z = true) : (z.cps.toList.all fun c => decide (c < 16 ^ 8)) = true := by
  unfold PyData.strOk at h
  rw [List.all_eq_true]
  rw [Array.all_eq_true'] at h
  intro c hc
  have := h c (by simpa using hc)
  have h2 : c < 1114112 := by simpa using this
  exact decide_eq_true (Nat.lt_trans h2 (by decide))
/-- what aggregates and sums of such values are -/
def vBg : V → Prop
  | .non => True
  | .int i => i.natAbs < 2 ^ 200
  | .str z => z.length ≤ 10 ∧ PyData.strOk z = true
  | _ => False
theorem vBg.ok {v : V} (h : vBg v) : vOk v := by
  cases v with
  | non => trivial
  | int i => trivial
  | str z => exact ⟨Nat.le_trans h.1 (by decide), h.2⟩
  | _ => exact h.elim
theorem vSm.bg {v : V} (h : vSm v) : vBg v := by
  cases v with
  | non => trivial
  | int i => exact Nat.lt_trans h (by decide +kernel)
  | str z => exact h
  | _ => exact h.elim
theorem bg_rep {v : V} (h : vBg v) : RepOk (vD v) := by
  cases v with
  | non =>
    refine ⟨rfl, rfl, by show PyData.depth .none ≤ 20; simp [PyData.depth], ?_⟩
    show (Str.ofString "None").length ≤ 100000
    decide +kernel
  | int i =>
    have h : i.natAbs < 2 ^ 200 := h
    have l := log_lt (by decide) h
    have a := int_short (by decide) h
    exact ⟨by show decide (i.natAbs.log2 < 1920) = true; exact decide_eq_true (by omega), rfl, by simp [vD, PyData.depth], by show (PyData.shown (.int i)).length ≤ _; omega⟩
  | str z =>
    have := PyData.shown_le 201 (by decide) (.str z) (by show (z.cps.toList.all fun c => decide (c < 16 ^ 8)) = true; exact str_short h.2)
    have w : (PyData.str z).weight ≤ 10 := h.1
    exact ⟨rfl, rfl, by simp [vD, PyData.depth], by show (PyData.shown (.str z)).length ≤ _; omega⟩
  | _ => exact h.elim
theorem sm_all : ∀ {xs : List V}, (∀ x ∈ xs, vSm x) → PyData.showableAll (xs.map vD) = true ∧ PyData.hasDictAll (xs.map vD) = false ∧ PyData.depthAll (xs.map vD) ≤ 1 ∧ PyData.leavesShortAll 71 (xs.map vD) = true ∧ PyData.weightAll (xs.map vD) ≤ 71 * xs.length
  | [], _ => by simp [PyData.showableAll, PyData.hasDictAll, PyData.depthAll, PyData.leavesShortAll, PyData.weightAll]
  | x :: xs, h => by
    obtain ⟨a1, a2, a3, a4, a5⟩ := sm_all fun y hy => h y (.tail _ hy)
    have b : (vD x).showable = true ∧ (vD x).hasDict = false ∧ (vD x).depth ≤ 1 ∧ (vD x).leavesShort 71 = true ∧ (vD x).weight ≤ 70 := by
      have hx := h x (.head _)
      cases x with
      | non => simp [vD, PyData.showable, PyData.hasDict, PyData.depth, PyData.leavesShort, PyData.weight]
      | int i =>
        have hx : i.natAbs < 2 ^ 70 := hx
        have l := log_lt (by decide) hx
        have a := int_short (by decide) hx
        refine ⟨by show decide (i.natAbs.log2 < 1920) = true; exact decide_eq_true (by omega), rfl, by simp [vD, PyData.depth], ?_, int_weight (by decide) hx⟩
        show decide ((PyData.shown (.int i)).length ≤ 71) = true
        exact decide_eq_true a
      | str z =>
        refine ⟨rfl, rfl, by simp [vD, PyData.depth], by show (z.cps.toList.all fun c => decide (c < 16 ^ 8)) = true; exact str_short hx.2, ?_⟩
        have w : (PyData.str z).weight ≤ 10 := hx.1
        show (PyData.str z).weight ≤ 70
        omega
      | _ => exact hx.elim
    obtain ⟨b1, b2, b3, b4, b5⟩ := b
    simp only [List.map_cons, PyData.showableAll, PyData.hasDictAll, PyData.depthAll, PyData.leavesShortAll, PyData.weightAll, a1, a2, a4, b1, b2, b4, List.length_cons]
    refine ⟨rfl, rfl, by omega, rfl, by omega⟩
theorem list_rep {xs : List V} (h : ∀ x ∈ xs, vSm x) (hl : xs.length ≤ 8) : RepOk (.list (xs.map vD)) := by
  obtain ⟨a1, a2, a3, a4, a5⟩ := sm_all h
  have := PyData.shown_le 71 (by decide) (.list (xs.map vD)) (by simpa only [PyData.leavesShort] using a4)
  have w : (PyData.list (xs.map vD)).weight ≤ 568 := by
    simp only [PyData.weight]
    omega
  refine ⟨by simpa only [PyData.showable] using a1, by simpa only [PyData.hasDict] using a2, by simp only [PyData.depth]; omega, ?_⟩
  have : 73 * (PyData.list (xs.map vD)).weight ≤ 73 * 568 := Nat.mul_le_mul_left _ w
  omega
/-! what comes of small values is not great -/
theorem sum_bg : ∀ {ns : List Int}, (∀ i ∈ ns, i.natAbs < 2 ^ 70) → ns.length ≤ 100 → ns.sum.natAbs ≤ ns.length * 2 ^ 70
  | [], _, _ => by decide
  | i :: ns, h, hl => by
    have a := sum_bg (fun j hj => h j (.tail _ hj)) (by rw [List.length_cons] at hl; omega)
    have b := h i (.head _)
    rw [List.sum_cons, List.length_cons, Nat.succ_mul]
    have c := Int.natAbs_add_le i ns.sum
    omega
theorem agg_bg {n : Nat} {b : Bool} {ys : List V} {v : V} (hy : ∀ y ∈ ys, vSm y) (hl : ys.length ≤ 100) (h : AggIs n b ys v) : vBg v := by
  have tl := tld_len ys
  have cnt : ∀ m : Nat, m ≤ 100 → vBg (.int m) := fun m hm => by
    show (m : Int).natAbs < 2 ^ 200
    rw [Int.natAbs_natCast]
    exact Nat.lt_of_le_of_lt hm (by decide +kernel)
  match n, h with
  | 0, h =>
    subst h
    refine cnt _ ?_
    have := distK_len ((tld ys).map kOf)
    rw [List.length_map] at this
    split <;> omega
  | 1, h =>
    subst h
    split
    · trivial
    · have hn : ∀ i ∈ ntsOf ys, i.natAbs < 2 ^ 70 := fun i hi => by
        unfold ntsOf at hi
        obtain ⟨y, hy', rfl⟩ := List.mem_map.mp hi
        obtain ⟨m, t⟩ := List.mem_filter.mp hy'
        have := hy y m
        cases y with
        | int i => exact this
        | _ => cases t
      have ln : (ntsOf ys).length ≤ 100 := by
        unfold ntsOf
        rw [List.length_map]
        exact Nat.le_trans (List.length_filter_le _ _) hl
      have := sum_bg hn ln
      show (ntsOf ys).sum.natAbs < 2 ^ 200
      refine Nat.lt_of_le_of_lt (Nat.le_trans this (Nat.mul_le_mul_right _ ln)) (by decide +kernel)
  | 2, h =>
    rcases h with ⟨_, rfl⟩ | ⟨h, _⟩
    · trivial
    · exact (hy v (List.mem_filter.mp h).1).bg
  | n + 3, h =>
    rcases h with ⟨_, rfl⟩ | ⟨h, _⟩
    · trivial
    · exact (hy v (List.mem_filter.mp h).1).bg
theorem rec_bg {n : Nat} {x y : V} (hx : vSm x) (hy : vSm y) : vBg (recV n x y) := by
  unfold recV
  split
  · next e =>
    cases x with
    | int i =>
      cases y with
      | int j =>
        have hi : i.natAbs < 2 ^ 70 := hx
        have hj : j.natAbs < 2 ^ 70 := hy
        have e2 : (2 : Nat) ^ 70 + 2 ^ 70 < 2 ^ 200 := by decide +kernel
        show (rec3 n i j).natAbs < 2 ^ 200
        match n with
        | 0 =>
          show (i + j).natAbs < _
          have := Int.natAbs_add_le i j
          omega
        | 1 =>
          show (i - j).natAbs < _
          have := Int.natAbs_sub_le i j
          omega
        | n + 2 =>
          show (i * j).natAbs < _
          exact Nat.lt_trans (wide_lt hi hj) (by decide +kernel)
      | _ => cases e.2
    | _ => cases e.1
  · trivial
end Ask
namespace Ask
open PySem L2 PySem.Spec PyProof.Rows
/-! ### a law whose own def prints lists: it is entered from the caller of the claim, where no guard stands -/
section
variable {P : Program} {w : World} {K : PySem.W.Frag} {mg mb : Str → Option Value} {a : Addr} {s₁ : Shared} {vs : List Value} {ns : List Int}
/-- only the script is told of -/
structure OnlyA (K : PySem.W.Frag) (a : Addr) (H : Hp) : Prop where
  at_ : ∀ b, H b ≠ none → b = a
  out : H a ≠ none → K.lookup a = none
  frz : ∀ b, H b = none ∨ ∃ o xs, H b = some (.frz o (.lst xs))
theorem env_at {H : Hp} (oa : OnlyA K a H) (KX : K.In s₁.heap) (g1 : s₁.heap.Ns mainGlobals mg) (g2 : s₁.heap.Ns builtinsNs mb) (g3 : ∀ x : Str, x ≠ "__name__" → mb x = bootBuiltins x) (g4 : s₁.heap.NoLimit) (g5 : s₁.gens = #[])
    (ha : s₁.heap.get? a = some { cls := .type "list", data := .seq vs.toArray }) (hok : HOk P w H s₁.heap) :
    K.In (hidT s₁.heap H) ∧ (hidT s₁.heap H).Ns mainGlobals mg ∧ Env0 P w K mg (hidT s₁.heap H) callerA [] s₁ H := by
  have free : ∀ {b : Addr}, b ≠ a → H b = none := fun {b} n => Classical.byContradiction fun q => n (oa.at_ b q)
  have dict : ∀ {b : Addr} {o : Obj} {es : Array DictEntry} {ep : Nat}, s₁.heap.get? b = some o → o.data = .dict es ep → H b = none := by
    intro b o es ep e d
    refine free fun q => ?_
    rw [q, ha] at e
    have e := Option.some.inj e
    subst e
    exact nomatch (show Data.seq vs.toArray _ = Data.dict es ep from d)
  have ns : ∀ {b : Addr} {m : Str → Option Value}, s₁.heap.Ns b m → (hidT s₁.heap H).Ns b m := by
    rintro b m ⟨o, es, ep, e, d, r⟩
    exact ⟨o, es, ep, hidT_get e (dict e d), d, r⟩
  have kin : K.In (hidT s₁.heap H) := by
    intro b o e
    refine hidT_get (KX b o e) (Classical.byContradiction fun q => ?_)
    have eb := oa.at_ b q
    rw [eb] at q e
    rw [oa.out q] at e
    cases e
  obtain ⟨mc, l1, l2⟩ := g4
  have M : Mod K mg (hidT s₁.heap H) := ⟨kin, ns g1, ⟨mb, ns g2, g3⟩, ⟨mc, ns l1, l2⟩⟩
  refine ⟨kin, ns g1, ⟨rfl, M, fun b o e => of_hidT e, Nat.le_of_eq (hidT_size _ _), trivial, ?_, hok, .of_eq g5⟩⟩
  intro b hb
  have : b ∈ ([] : List Addr) := hb
  cases this
/-- the law's def, entered there; its body may use that no guard stands -/
theorem enter_g {k : Nat} {f : Addr} {x qual : Str} {st : Stmt} {fd : FuncData} {N ps : List Str} {base : Heap} {H : Hp} {us : List Value} {xs : List V} {Q : VK} (F : Fun K x qual st f fd) (S : FnScope N ps (defScope st)) (hr : Room (k + 1) callerA)
    (e0 : Env0 P w K mg base callerA [] s₁ H) (hb : BindsTo s₁ fd ⟨us, []⟩ (ps.zip us)) (rv : Vals xs us) (hl : xs.length = ps.length)
    (body : ∀ cdv : Value, Room k (callerA.deeper (envOfC qual (defScope st) s₁.heap.objs.size f cdv)) → (callerA.deeper (envOfC qual (defScope st) s₁.heap.objs.size f cdv)).guards = some [] →
      ∃ t, PSs (cxOf CX0 P w K mg base N qual (defScope st) f cdv callerA [] s₁ H fun _ _ _ => False).nox (defBody st) t ∧ t { nx := fun _ H' => Q .non H', rt := Q } (start N xs) H) :
    codeAny (model P w) callerA (.call (.ref f) ⟨us, []⟩) (CR CX0 [] P w H s₁ Q fun _ _ _ => False) s₁ := by
  obtain ⟨oc, od, kV, doc, pm, an, cdv, ct, osl, rfl, lk, hcd⟩ := F.ex
  have keep : ∀ b o, base.get? b = some o → s₁.heap.get? b = some o := fun b o e => (e0.bs b o e).1
  have KX : K.In s₁.heap := e0.mod.kin.keeps keep
  have lim : s₁.heap.NoLimit := e0.mod.nolimit.keeps keep
  have kinds : ∀ y ∈ ps.zip us, (defScope st).names.lookup y.1 = some .local ∨ ((defScope st).names.lookup y.1 = some .cell ∧ ((cellsFrom (s₁.heap.objs.size + 1) (defScope st).names []).lookup y.1).isSome = true) := by
    rintro ⟨n, v⟩ hy
    cases S.par n (List.of_mem_zip hy).1 with
    | inl q => exact .inl q
    | inr q => exact .inr ⟨q, PySem.W.cellsFrom_some _ _ _ (.inl q)⟩
  refine codeAny_call_function hr.depth (KX _ _ lk) rfl S.co S.gen rfl (PySem.W.codeRec_of KX hcd) (hb _ _ _ _ (wpAny_newFunctionEnv_cells S.kind kinds fun env he s2 q => ?_))
  subst he
  obtain ⟨t, ht, hq⟩ := body cdv (hr.deeper _) rfl
  have I := inv_start (CX := CX0) (E := fun _ _ _ => False) S hr.hd e0 hl rv q
  refine ⟨lim.keeps q.toInCall.keep, codeAny_func (wpAny_mono (ht.nox.run [] s2 (start N xs) H _ I hq) (fun fl s' hs => ?_) fun _ _ z => z)⟩
  cases fl with
  | ret u => obtain ⟨v, σ', H', J, r, q⟩ := hs; exact ⟨v, H', J.os, J.bare, J.base, J.hok, r, q⟩
  | next => obtain ⟨σ', H', J, q⟩ := hs; exact ⟨.non, H', J.os, J.bare, J.base, J.hok, rfl, q⟩
  | brk => obtain ⟨_, _, _, q⟩ := hs; exact q.elim
  | cont => obtain ⟨_, _, _, q⟩ := hs; exact q.elim
end
/-- the end of such a law: B tells the body for every base -/
theorem walk_g {l : PySem.W.OpenLaw} {n k : Nat} {q : Program} {loose : List Str} {XP : (Str → Option Value) → Heap → Prop} {YP : World → Heap → Prop} {d : DefRec} {K : Params → PySem.W.Frag} {x qual : Str} {st : Stmt} {N : List Str} (hn : l.most = some n) (hn2 : n ≤ sizeLine) (hdf : d.params.defaults = []) (hr : Room (k + 1) callerA)
    (hY : ∀ (w : World) (h : Heap), YP w h → (K w.params).In h) (S : FnScope N [x] (defScope st))
    (F : ∀ (w : World) (mg : Str → Option Value) (fa : Addr) (h : Heap), (K w.params).In h → h.Ns mainGlobals mg → mg d.name = some (.ref fa) →
      ∃ fd : FuncData, Fun (K w.params) qual qual st fa fd ∧ (∀ (s : Shared) (u : Value), BindsTo s fd ⟨[u], []⟩ [(x, u)]) ∧
        ∀ (base : Heap) (s₁ : Shared) (H : Hp) (a : Addr) (ns : List Int) (cdv : Value), (K w.params).In base → base.Ns mainGlobals mg → SqL (K w.params) H a (ns.map V.int) → ns.length ≤ n →
          Room k (callerA.deeper (envOfC qual (defScope st) s₁.heap.objs.size fa cdv)) → (callerA.deeper (envOfC qual (defScope st) s₁.heap.objs.size fa cdv)).guards = some [] →
          ∃ t, PSs (cxOf CX0 l.prog w (K w.params) mg base N qual (defScope st) fa cdv callerA [] s₁ H fun _ _ _ => False).nox (defBody st) t ∧ t { nx := fun _ _ => V.non = V.bl true, rt := fun v _ => v = .bl true } (start N [.ref a]) H) :
    PySem.W.WalkO q loose XP YP l.row.toRowW d [] (fun f vs => PySem.call f vs) := by
  refine Att.attach_call hn hdf fun w s₀ s₁ mg mb fa o pm cd doc a vs ns G Y _ _ _ hmg hobj hints hlen hg => ?_
  have KX := hY w _ Y
  obtain ⟨fd, Fd, hb, body⟩ := F w mg fa _ KX G.T.g hmg
  have rv := vals_ints hints
  have lenV := hints.length
  have main : ∀ H : Hp, OnlyA (K w.params) a H → SqL (K w.params) H a (ns.map V.int) → HOk l.prog w H s₁.heap →
      codeAny (model l.prog w) callerA (.call (.ref fa) ⟨[.ref a], []⟩) (fun r s' => r = .ok (.ret (.bool true)) ∧ OldK s₁.heap s'.heap ∧ s'.os = s₁.os ∧ AllBare s'.gens) s₁ := by
    intro H oa hS hok
    obtain ⟨kin, gl, e0⟩ := env_at oa KX G.T.g G.T.b G.T.builtins G.T.nolimit hg hobj hok
    refine codeAny_mono (enter_g (xs := [.ref a]) Fd S hr e0 (hb s₁ (.ref a)) (.cons rfl .nil) rfl (Q := fun v _ => v = .bl true) fun cdv h1 h2 => body _ s₁ H a ns cdv kin gl hS hlen h1 h2) fun r s' h => ?_
    cases r with
    | error e => exact h.elim
    | ok fl =>
      cases fl with
      | ret u =>
        obtain ⟨v, H', os, bare, un, hok', r', rfl⟩ := h
        obtain rfl : u = Value.bool true := r'
        refine ⟨rfl, OldK.of_keep fun b o e => ?_, os, bare⟩
        cases z : H b with
        | none => exact un.keep b o e z (by intro q; have : b ∈ ([] : List Addr) := q; cases this) (by simp)
        | some u =>
          rcases oa.frz b with z2 | ⟨ob, xs, z2⟩
          · rw [z2] at z; cases z
          · have t1 := (hok b _ z2).1
            have t2 := (hok' b _ (un.frzs b ob _ z2)).1
            rw [e] at t1
            rw [t2, t1]
      | next => exact False.elim h
      | brk => exact False.elim h
      | cont => exact False.elim h
  have hsz : (ns.map V.int).length ≤ sizeLine := by rw [List.length_map]; exact Nat.le_trans hlen hn2
  cases hk : (K w.params).lookup a with
  | some o =>
    have e := KX a o hk
    rw [hobj] at e
    cases e
    refine main (fun _ => none) ⟨fun _ z => absurd rfl z, fun z => absurd rfl z, fun _ => .inl rfl⟩ (.inr ⟨_, vs.toArray, _, hk, rfl, rfl, rfl, ?_, by simpa using rv⟩) fun b u z => nomatch (show (none : Option HO) = some u from z)
    rw [List.size_toArray, lenV]; exact Nat.le_trans hlen hn2
  | none =>
    have hit : (fun b => if b = a then some (HO.frz { cls := .type "list", data := .seq vs.toArray } (.lst (ns.map V.int))) else none) a = some (HO.frz { cls := .type "list", data := .seq vs.toArray } (.lst (ns.map V.int))) := if_pos rfl
    refine main (fun b => if b = a then some (.frz { cls := .type "list", data := .seq vs.toArray } (.lst (ns.map V.int))) else none) ⟨fun b z => ?_, fun _ => hk, fun b => ?_⟩ (.inl (.inr ⟨_, hit⟩)) fun b u z => ?_
    · exact Classical.byContradiction fun q => z (if_neg q)
    · by_cases q : b = a
      · exact .inr ⟨_, _, if_pos q⟩
      · exact .inl (if_neg q)
    · by_cases q : b = a
      · subst q
        have z' := hit.symm.trans z
        cases z'
        exact ⟨hobj, hsz, vs, _, rv, hobj⟩
      · have z' := (if_neg q).symm.trans z
        cases z'
section
variable {X : Cx}
/-- repr of data, where no guard stands -/
theorem call_repr_data (hg : X.A.guards = some []) (hu : X.A.units + 30 < cLine) : CallR X (.builtin "repr") (fun xs H Q => ∃ v d, xs = [v] ∧ Dp X.K H v d ∧ d.showable = true ∧ d.hasDict = false ∧ d.depth ≤ 20 ∧ d.shown.length ≤ 100000 ∧ Q (.str d.shown) H) := by
  intro pins s σ H xs us Q I r h
  obtain ⟨v, d, rfl, hd, h1, h2, h3, h4, q⟩ := h
  obtain ⟨u, rfl, ru⟩ := vals1 r
  obtain ⟨as, rd⟩ := Dp.reads I d v u hd ru
  have hz : d.shown.length ≤ sizeLine := Nat.le_trans h4 (by decide)
  cases v with
  | ref a =>
    cases ru
    exact repr_of_reads' rd h1 (fun e => by rw [h2] at e; cases e) hg (by omega) (fun _ _ e => e) (fun h' t tk hk => ⟨.str d.shown, H, I.kept (t' := tk) hk, ⟨_, rfl⟩, q⟩) hz
  | non =>
    cases hd
    obtain rfl : u = Value.none := ru
    exact PySem.P.repr_of_none ⟨.str _, H, I.tok _, ⟨_, rfl⟩, by simpa only [PyData.shown] using q⟩
  | bl b =>
    cases hd
    obtain rfl : u = Value.bool b := ru
    refine PySem.P.repr_of_bool ?_
    have q2 : Q (.str (if b = true then ("True" : String) else ("False" : String))) H := by
      have := q
      simp only [PyData.shown] at this
      cases b <;> exact this
    exact ⟨.str _, H, I.tok _, ⟨_, rfl⟩, q2⟩
  | int i =>
    cases hd
    obtain ⟨t, rfl⟩ := ru
    exact PySem.P.repr_of_int (of_decide_eq_true (by simpa only [PyData.showable] using h1)) ⟨.str _, H, I.tok _, ⟨_, rfl⟩, by simpa only [PyData.shown] using q⟩
  | str x =>
    cases hd
    obtain ⟨t, rfl⟩ := ru
    have hz2 : (reprText x).length ≤ sizeLine := by simpa only [PyData.shown] using hz
    exact PySem.P.repr_of_str (hsz := hz2) ⟨.str _, H, I.tok _, ⟨_, rfl⟩, by simpa only [PyData.shown] using q⟩
  | byt _ => cases hd
  | flt _ => cases hd
  | ty _ => cases hd
end
end Ask
namespace Ask
open PySem L2
theorem boot_repr : bootBuiltins ("repr" : Str) = some (.builtin "repr") := by decide +kernel
theorem boot_range : bootBuiltins ("range" : Str) = some (.type "range") := by decide +kernel
abbrev psAgg : List Str := ["word", "values", "distinct"]
/-- aggregate, called with and without its keyword -/
structure Da (P : Program) (w : World) (K : PySem.W.Frag) (mg : Str → Option Value) (base : Heap) : Prop where
  ex : ∃ (f : Addr) (fd : FuncData) (ds : List Value), mg "aggregate" = some (.ref f) ∧ PySem.W.keepIn K (.ref f) = true ∧ Vals [.bl false] ds ∧ Binds K fd psAgg ds ∧ KBn K fd psAgg 2 ["distinct"] (fun us ws => us ++ ws) (fun vs zs => vs ++ zs) ∧ FnOk P w K mg base CX0 3 f fd psAgg (spAgg K)
section
variable {X : Cx} {e : Expr} {es : List Expr} {t : TA} {p pos : Pos}
theorem pe_agg (D : Da X.prog X.w X.K X.mg X.base) (hr : Room 3 X.A) (hg : Gl X "aggregate") (ha : PA X (e :: es) t)
    (he : starEach (e :: es) X.env = (false, eval e X.env) :: starEach es X.env := by rfl) (hpl : (backTo pos (starEach es X.env)).any (·.1) = false := by rfl) : PE X (.Call (.Name "aggregate" p) (e :: es) [] pos) (tCall (spAgg X.K) [.bl false] E0 t) := by
  obtain ⟨f, fd, ds, hm, kp, hd, hb, _, F⟩ := D.ex
  exact pe_call F hr hg hm kp hb hd pass0 ha (by decide) he hpl
theorem pe_aggK {kws : List Keyword} {tk : TA} (D : Da X.prog X.w X.K X.mg X.base) (hr : Room 3 X.A) (hg : Gl X "aggregate") (ha : PA X (e :: es) t) (hkw : PK X kws tk)
    (hall : (backToKw pos (keywordEach kws X.env)).all (·.1.isSome) = true := by rfl) (hks : (backToKw pos (keywordEach kws X.env)).filterMap (·.1) = (["distinct"] : List Str) := by rfl)
    (he : starEach (e :: es) X.env = (false, eval e X.env) :: starEach es X.env := by rfl)
    (hpl : ((backTo pos (starEach (e :: es) X.env)).any (·.1) || (backToKw pos (keywordEach kws X.env)).any (·.1.isNone)) = false := by rfl) :
    PE X (.Call (.Name "aggregate" p) (e :: es) kws pos) (tCallN 2 1 (spAgg X.K) (fun vs zs => vs ++ zs) E0 t tk) := by
  obtain ⟨f, fd, ds, hm, kp, _, _, hb, F⟩ := D.ex
  exact pe_callN F hr hg hm kp hb pass0 ha hkw hall hks (by decide) he hpl
end
theorem agg_kb {K : PySem.W.Frag} {x qual : Str} {body : List Stmt} {scope : Scope} {kws : List (Str × V)} {f : Addr} {fd : FuncData} (F : FunD K x qual (defArgs sAgg) body scope [] kws f fd) : KBn K fd psAgg 2 ["distinct"] (fun us ws => us ++ ws) (fun vs zs => vs ++ zs) := by
  obtain ⟨oc, od, dV, kV, doc, pm, an, cdv, ct, osl, rfl, lk, hcd, hD, hK⟩ := F.ex
  obtain rfl : dV = .none := hD.elim (·.2) fun e => (e.1 rfl).elim
  refine ⟨fun s us ws X l1 l2 => ?_, fun r1 r2 => r1.append r2⟩
  match us, l1, ws, l2 with
  | [_, _], _, [_], _ => exact .of_eq rfl
theorem agg_b0 {K : PySem.W.Frag} {x qual : Str} {body : List Stmt} {scope : Scope} {f : Addr} {fd : FuncData} (F : FunD K x qual (defArgs sAgg) body scope [] [("distinct", .bl false)] f fd) : ∃ ds, Vals [.bl false] ds ∧ Binds K fd psAgg ds :=
  F.binds0 2 (by intro z; cases z) rfl fun D doc pm an cdv ct us ks l1 l2 => match us, l1, ks, l2 with
    | [_, _], _, [_], _ => ⟨_, _, _, _, _, _, rfl, rfl, rfl⟩
structure Defs (P : Program) (w : World) (K : PySem.W.Frag) (mg : Str → Option Value) (base : Heap) : Prop where
  reck : Dn P w K mg base 2 "reckon" ["sign", "one", "other"] spRec
  agg : Da P w K mg base
  beg : Dn P w K mg base 1 "_law_begin" ["_law_script"] (spBegin K)
  draw : Dn P w K mg base 1 "_law_draw" ["_law_tape", "_law_many"] spDraw
  pick : Dn P w K mg base 2 "_law_pick" ["_law_tape", "_law_items"] (spPick K)
  value : Dn P w K mg base 3 "_law_value" ["_law_tape", "_law_kind"] spVal
  recd : Dn P w K mg base 1 "_law_reckoned" ["_law_sign", "_law_one", "_law_other"] spRec
  totd : Dn P w K mg base 3 "_law_totalled" ["_law_word", "_law_values", "_law_is_distinct"] (spAgg K)
def wdL : List V := [.str "count", .str "sum", .str "least", .str "most"]
theorem wdL_at {k : Nat} {z : V} (h : wdL[k]? = some z) : k < 4 ∧ z = .str (wdAt k) := by
  match k, h with
  | 0, h => cases h; exact ⟨by decide, rfl⟩
  | 1, h => cases h; exact ⟨by decide, rfl⟩
  | 2, h => cases h; exact ⟨by decide, rfl⟩
  | 3, h => cases h; exact ⟨by decide, rfl⟩
  | n + 4, h => cases h
def sgL : List V := [.str "+", .str "-", .str "*"]
theorem sgL_at {k : Nat} {z : V} (h : sgL[k]? = some z) : k < 3 ∧ z = .str (sg3 k) := by
  match k, h with
  | 0, h => cases h; exact ⟨by decide, rfl⟩
  | 1, h => cases h; exact ⟨by decide, rfl⟩
  | 2, h => cases h; exact ⟨by decide, rfl⟩
  | n + 3, h => cases h
theorem neF {x y : V} {A B : Prop} (h : x = y) (k : B) : if (!decide (x = y)) = true then A else B := by
  subst h
  rw [decide_eq_true rfl]
  exact iteF k
theorem neS {x y : Str} {A B : Prop} (h : x = y) (k : B) : if (!decide (V.str x = V.str y)) = true then A else B := neF (congrArg V.str h) k
theorem tYes_go {σ : St} {H : Hp} {A B : Hp → Prop} (h : A H) : tYes σ H (fun b H3 => if b = true then A H3 else B H3) := by
  unfold tYes
  exact iteT h
theorem one_at {ys : List V} (h : ∀ y ∈ ys, vSm y) : ∃ x, atI (ys ++ [.non]) 0 = some x ∧ vSm x := by
  cases ys with
  | nil => exact ⟨.non, at_of (j := 0) rfl rfl, trivial⟩
  | cons y r => exact ⟨y, at_of (j := 0) rfl rfl, h y (.head _)⟩
theorem oth_at {ys : List V} (h : ∀ y ∈ ys, vSm y) : ∃ x, atI ([.int 7] ++ ys) (-1) = some x ∧ vSm x := by
  rcases List.eq_nil_or_concat ys with e | ⟨r, x, e⟩
  · subst e
    exact ⟨.int 7, at_last (xs := []), by show (7 : Int).natAbs < 2 ^ 70; decide⟩
  · rw [List.concat_eq_append] at e
    subst e
    exact ⟨x, by rw [← List.append_assoc]; exact at_last, h x (List.mem_append_right _ (.head _))⟩
theorem sm_scal {x y : V} (hx : vBg x) (hy : vBg y) : scal x y = true := by
  cases x <;> cases y <;> first | rfl | exact hx.elim | exact hy.elim
abbrev n_law : List Str := ["_law_script", "_law_tape", "_law_turn", "_law_values", "_law_kept", "_law_word", "_law_one", "_law_other", "_law_sign", "_law_k", "_law_value_here"]
theorem sc_law : FnScope n_law ["_law_script"] (defScope sLaw) := ⟨rfl, rfl, rfl, by decide +kernel, rfl, by decide +kernel, by decide +kernel⟩
theorem law_body {P : Program} {w : World} {K : PySem.W.Frag} {mg : Str → Option Value} {base : Heap} (B : Blt mg) (D : Defs P w K mg base) {f : Addr} {cdv : Value} {s₁ : Shared} {H : Hp} {a : Addr} {ns : List Int} (hS : SqL K H a (ns.map V.int))
    (hr : Room 4 (callerA.deeper (PyProof.Rows.envOfC "law" (defScope sLaw) s₁.heap.objs.size f cdv))) (hg : (callerA.deeper (PyProof.Rows.envOfC "law" (defScope sLaw) s₁.heap.objs.size f cdv)).guards = some []) :
    ∃ t, PSs (cxOf CX0 P w K mg base n_law "law" (defScope sLaw) f cdv callerA [] s₁ H fun _ _ _ => False).nox (defBody sLaw) t ∧ t { nx := fun _ _ => V.non = V.bl true, rt := fun v _ => v = .bl true } (start n_law [.ref a]) H := by
  have hr1 : Room 1 _ := hr.mono (by decide)
  have hr2 : Room 2 _ := hr.mono (by decide)
  have hr3 : Room 3 _ := hr.mono (by decide)
  have hu : (callerA.deeper (PyProof.Rows.envOfC "law" (defScope sLaw) s₁.heap.objs.size f cdv)).units + 30 < cLine := by have := hr.un; omega
  refine ⟨_, (pss_cons (ps_set (i := 1) sc_law.nd rfl (Or.inr rfl) (pe_dn D.beg hr1 (by rfl) (pa_cons (pv 0) pa_nil)))
      (pss_cons (ps_for PassesOwn.never rfl (pi_range1 (by rfl) B.range (pa_cons pe_int pa_nil)) (pg_name (i := 2) sc_law.nd rfl (Or.inl rfl)) (pss_cons (ps_setLc (i := 3) (own := [("_law_k", 9)]) (g := gName 9) (tt := tYes) (by rfl) sc_law.nd rfl rfl (sw_true rfl rfl rfl (by decide +kernel)) (pi_range1 (by rfl) B.range (pa_cons (pe_dn D.draw hr1 (by rfl) (pa_cons (pv 1) (pa_cons pe_int pa_nil))) pa_nil)) (blkOk_by (own := [("_law_k", 9)]) (N := n_law) (sc := (defScope sLaw)) (by decide +kernel)) (fun _ _ _ _ _ => pg_name (i := 9) sc_law.nd rfl (Or.inl rfl)) (fun _ _ _ _ _ => pts_nil) (fun _ _ _ _ _ => (pe_dn D.value hr3 (by rfl) (pa_cons (pv 1) (pa_cons (pe_dn D.pick hr2 (by rfl) (pa_cons (pv 1) (pa_cons (pe_lst (pa_cons pe_str (pa_cons pe_str (pa_cons pe_str pa_nil)))) pa_nil))) pa_nil)))))
      (C8.pss_cut (ps_if (pt_cmpR op_eq (pe_dn D.draw hr1 (by rfl) (pa_cons (pv 1) (pa_cons pe_int pa_nil))) pe_int (nomark _)) (pss_one (ps_setLc (i := 3) (own := [("_law_value_here", 10)]) (g := gName 10) (by rfl) sc_law.nd rfl rfl (sw_true rfl rfl rfl (by decide +kernel)) (pi_list (pv 3)) (blkOk_by (own := [("_law_value_here", 10)]) (N := n_law) (sc := (defScope sLaw)) (by decide +kernel)) (fun _ _ _ _ _ => pg_name (i := 10) sc_law.nd rfl (Or.inl rfl)) (fun _ _ _ _ _ => pts_one (pt_not (pt_val (pe_callB (r := rIsi K) call_isi (by rfl) B.isi boot_isi (pa_cons (pv 10) (pa_cons (pe_bltn (v := .ty "str") (by rfl) B.str boot_str rfl) pa_nil)))))) (fun _ _ _ _ _ => (pv 10)))) pss_nil)
      (pss_cons (ps_set (i := 4) sc_law.nd rfl (Or.inl rfl) (pe_callB (call_repr_data hg hu) (by rfl) B.repr boot_repr (pa_cons (pv 3) pa_nil)))
      (pss_cons (ps_for PassesOwn.never rfl (pi_list (pe_lst (pa_cons pe_str (pa_cons pe_str (pa_cons pe_str (pa_cons pe_str pa_nil)))))) (pg_name (i := 5) sc_law.nd rfl (Or.inl rfl)) (pss_one (ps_if (pt_cmpR op_ne (pe_callB (call_repr_data hg hu) (by rfl) B.repr boot_repr (pa_cons (pe_agg D.agg hr3 (by rfl) (pa_cons (pv 5) (pa_cons (pv 3) pa_nil))) pa_nil)) (pe_callB (call_repr_data hg hu) (by rfl) B.repr boot_repr (pa_cons (pe_dn D.totd hr3 (by rfl) (pa_cons (pv 5) (pa_cons (pv 3) (pa_cons pe_bl pa_nil)))) pa_nil)) (nomark _)) (pss_one (ps_ret pe_bl)) pss_nil)))
      (pss_cons (ps_if (pw_or (pt_cmpR op_ne (pe_aggK D.agg hr3 (by rfl) (pa_cons pe_str (pa_cons (pv 3) pa_nil)) (pk_cons pe_bl pk_nil)) (pe_dn D.totd hr3 (by rfl) (pa_cons pe_str (pa_cons (pv 3) (pa_cons pe_bl pa_nil)))) (nomark _)) (pw_or1 (pt_cmpR op_ne (pe_callB (call_repr_data hg hu) (by rfl) B.repr boot_repr (pa_cons (pv 3) pa_nil)) (pv 4) (nomark _)))).pt (pss_one (ps_ret pe_bl)) pss_nil)
      (pss_cons (ps_par (i := 6) (j := 7) (by rfl) sc_law.nd rfl rfl (by decide) rfl rfl (pa_cons (pe_ix (r := rIxL K) ix_list (pe_op op_cat (pv 3) (pe_lst (pa_cons pe_non pa_nil))) pe_int (fun _ _ => rfl)) (pa_cons (pe_ix (r := rIxL K) ix_list (pe_op op_cat (pe_lst (pa_cons pe_int pa_nil)) (pv 3)) (pe_un un_neg pe_int) (fun _ _ => rfl)) pa_nil)) (by rfl))
      (pss_one (ps_for PassesOwn.never rfl (pi_list (pe_lst (pa_cons pe_str (pa_cons pe_str (pa_cons pe_str pa_nil))))) (pg_name (i := 8) sc_law.nd rfl (Or.inl rfl)) (pss_one (ps_if (pt_cmpR op_ne (pe_callB (call_repr_data hg hu) (by rfl) B.repr boot_repr (pa_cons (pe_dn D.reck hr2 (by rfl) (pa_cons (pv 8) (pa_cons (pv 6) (pa_cons (pv 7) pa_nil)))) pa_nil)) (pe_callB (call_repr_data hg hu) (by rfl) B.repr boot_repr (pa_cons (pe_dn D.recd hr1 (by rfl) (pa_cons (pv 8) (pa_cons (pv 6) (pa_cons (pv 7) pa_nil)))) pa_nil)) (nomark _)) (pss_one (ps_ret pe_bl)) pss_nil)))))))))))
      (pss_one (ps_ret pe_bl)))), ?_⟩
  refine ⟨_, rfl, a, ns, rfl, hS, fun d H0 hd0 T0 s0 => ?_⟩
  refine ⟨20, rfl, by decide, by decide, for_range (n := 20) (fun i σ H1 => ∃ u2 u3 u4 u5 u6 u7 u8 p, σ = [some (.ref a), some (.ref d), u2, u3, u4, u5, u6, u7, u8, none, none] ∧ Tape H1 d p ∧ p ≤ 100 * (i : Int)) ⟨none, none, none, none, none, none, none, 0, rfl, T0, by omega⟩ ?_ ?_⟩
  · rintro i σ H1 hi ⟨u2, u3, u4, u5, u6, u7, u8, p, rfl, T1, hp⟩
    -- values
    refine ⟨_, rfl, d, 8, p, rfl, by decide, by decide, T1, by omega, fun n1 p1 H2 a0 a1 T2 hp1 o1 => ⟨n1, rfl, by omega, by omega, fun DV hDV => ?_⟩⟩
    obtain ⟨kv2, hd2⟩ := T2.at
    have ndV : d ≠ DV := ne_of_none hd2 hDV
    refine lc_it walk_range (fun i2 H3 => ∃ (p3 : Int) (vs : List V), Tape H3 d p3 ∧ p3 ≤ p1 + 3 * i2 ∧ Off H2 H3 d ∧ H3 DV = some (.lst vs) ∧ vs.length = i2 ∧ ∀ v ∈ vs, vSm v)
      ⟨p1, [], T2.new hDV _, by omega, (Off.refl _ _).new hDV _, upd_same, rfl, fun _ h => (List.not_mem_nil h).elim⟩ (fun _ _ _ _ => trivial) ?_ ?_
    · rintro i2 y H3 H4 hi2 ⟨p3, vs, T3, hp3, o3, hD3, hvs, hV⟩ ⟨rfl, rfl⟩
      refine ⟨rfl, ?_⟩
      refine tYes_go ?_
      refine ⟨_, rfl, _, rfl, by show 3 ≤ sizeLine; decide, fun l hl => ?_⟩
      refine ⟨d, .ref l, _, p3, rfl, T3.new hl _, by omega, .inl ⟨l, rfl, SqL.of upd_same⟩, (by intro q; cases q), by show 3 < 1073741824; decide, fun x p4 H5 hx T5 hp4 o5 => ?_⟩
      obtain ⟨z, rfl⟩ : ∃ z : Str, x = .str z := by
        simp only [List.mem_cons, List.not_mem_nil, or_false] at hx
        rcases hx with rfl | rfl | rfl <;> exact ⟨_, rfl⟩
      refine ⟨d, z, p4, rfl, T5, by omega, fun v p5 H6 hv T6 hp5 o6 => ?_⟩
      have oo := ((o3.new hl _).trans o5).trans o6
      have hD6 : H6 DV = some (.lst vs) := o6 _ _ (o5 _ _ (by rw [upd_ne (ne_of_none hD3 hl)]; exact hD3) ndV.symm) ndV.symm
      refine ⟨vs, hD6, small1000 (by omega), p5, vs ++ [v], T6.fresh T2 oo hDV _, by omega, oo.fresh hDV ndV _, upd_same, by rw [List.length_append, hvs]; rfl, fun y hy => ?_⟩
      rcases List.mem_append.mp hy with hy | hy
      · exact hV y hy
      · rw [List.mem_singleton.mp hy]; exact hv
    rintro H3 ⟨p3, vs, T3, hp3, o3, hD3, hvs, hV⟩
    -- without texts, or with them
    refine ⟨fun σ' H9 => ∃ (Y : Addr) (ys : List V) (p9 : Int), σ' = [some (.ref a), some (.ref d), some (.int (0 + (i : Int))), some (.ref Y), u4, u5, u6, u7, u8, none, none] ∧ Tape H9 d p9 ∧ p9 ≤ p + 60 ∧ H9 Y = some (.lst ys) ∧ ys.length ≤ 8 ∧ ∀ y ∈ ys, vSm y, ?_, ?_⟩
    · refine ⟨_, rfl, d, 2, p3, rfl, by decide, by decide, T3, by omega, fun n2 p4 H4 b0 b1 T4 hp4 o4 => ⟨rfl, _, rfl, ?_⟩⟩
      have hD4 : H4 DV = some (.lst vs) := o4 _ _ hD3 ndV.symm
      refine ite2 (fun _ => ?_) (fun _ => ?_)
      · refine ⟨_, rfl, DV, rfl, ⟨_, SqL.of hD4⟩, fun N hN => ?_⟩
        obtain ⟨kv4, hd4⟩ := T4.at
        refine lc_list (K := K) (a := DV) (xs := vs) (vs := [10]) (fun m H5 => Same H4 H5 ∧ ∃ zs, H5 N = some (.lst zs) ∧ zs.length ≤ m ∧ ∀ z ∈ zs, vSm z) ⟨same_new hN _, [], upd_same, Nat.le_refl _, fun _ h => (List.not_mem_nil h).elim⟩ (fun m H5 _ q => SqL.of (q.1 _ _ hD4)) ?_ ?_
        · rintro m x H5 hx ⟨s5, zs, hN5, hm, hz⟩
          have hxv := hV x (List.mem_of_getElem? hx)
          have hmv : m < vs.length := (List.getElem?_eq_some_iff.mp hx).1
          obtain ⟨t1, b1, ty1, kt1, _⟩ := vOk.ty (K := K) (H := H5) hxv.ok
          refine ⟨rfl, _, rfl, x, .ty "str", .type t1, .type "str", b1, rfl, .ty _, ty1, kit_ty kt1, _, rfl, ?_⟩
          cases b1 with
          | true => exact iteF ⟨s5, zs, hN5, by omega, hz⟩
          | false =>
            refine iteT ⟨_, rfl, zs, hN5, small1000 (by omega), same_fresh (Same.refl _) hN s5 _, zs ++ [x], upd_same, by rw [List.length_append, List.length_singleton]; omega, fun y hy => ?_⟩
            rcases List.mem_append.mp hy with hy | hy
            · exact hz y hy
            · rw [List.mem_singleton.mp hy]; exact hxv
        · rintro H5 ⟨s5, zs, hN5, hm, hz⟩
          exact ⟨N, zs, p4, rfl, T4.same s5, by omega, hN5, by omega, hz⟩
      · exact ⟨DV, vs, p4, rfl, T4, by omega, hD4, by omega, hV⟩
    rintro σ' H5 ⟨Y, ys, p5, rfl, T5, hp5, hY, hl, hv⟩
    have hok : ∀ y ∈ ys, vOk y := fun y hy => (hv y hy).ok
    have rep := list_rep hv hl
    have atY : ∀ {H' : Hp}, Same H5 H' → H' Y = some (.lst ys) := fun s => s _ _ hY
    have dpY : ∀ {H' : Hp}, Same H5 H' → Dp K H' (.ref Y) (.list (ys.map vD)) := fun s => .lst (SqL.of (atY s)) (vs_dp hok)
    refine ⟨_, rfl, .ref Y, .list (ys.map vD), rfl, dpY (Same.refl _), rep.1, rep.2.1, rep.2.2.1, rep.2.2.2, ?_⟩
    -- the four words
    refine ⟨by show 4 ≤ sizeLine; decide, fun q hq => ⟨q, rfl, ⟨_, SqL.of upd_same⟩, for_list (xs := wdL) (fun j σ H' => ∃ u5, σ = [some (.ref a), some (.ref d), some (.int (0 + (i : Int))), some (.ref Y), some (.str (PyData.list (ys.map vD)).shown), u5, u6, u7, u8, none, none] ∧ Same H5 H' ∧ H' q = some (.lst wdL)) ⟨_, rfl, same_new hq _, upd_same⟩ (fun j σ H' _ q => SqL.of q.choose_spec.2.2) ?_ ?_⟩⟩
    · rintro j v σ H' hj ⟨u5, rfl, s, aq⟩
      obtain ⟨hj4, rfl⟩ := wdL_at hj
      refine ⟨_, rfl, _, rfl, j, Y, ys, false, rfl, hj4, SqL.of (atY s), hok, by omega, fun v1 H6 s6 i1 => ?_⟩
      have r1 := bg_rep (agg_bg hv (by omega) i1)
      refine ⟨v1, vD v1, rfl, v_dp (agg_bg hv (by omega) i1).ok, r1.1, r1.2.1, r1.2.2.1, r1.2.2.2, ?_⟩
      refine ⟨_, rfl, _, rfl, j, Y, ys, false, rfl, hj4, SqL.of (atY (s.trans s6)), hok, by omega, fun v2 H7 s7 i2 => ?_⟩
      obtain rfl : v1 = v2 := i1.one hok i2
      refine ⟨v1, vD v1, rfl, v_dp (agg_bg hv (by omega) i1).ok, r1.1, r1.2.1, r1.2.2.1, r1.2.2.2, ?_⟩
      exact ⟨rfl, _, rfl, neS rfl ⟨_, rfl, (s.trans s6).trans s7, s7 _ _ (s6 _ _ aq)⟩⟩
    · rintro σ H6 ⟨u5, rfl, s, _⟩
      -- distinct ones; the list stays
      refine ⟨_, rfl, rfl, rfl, 0, Y, ys, true, rfl, by decide, SqL.of (atY s), hok, by omega, fun v1 H7 s7 i1 => ?_⟩
      refine ⟨_, rfl, 0, Y, ys, true, rfl, by decide, SqL.of (atY (s.trans s7)), hok, by omega, fun v2 H8 s8 i2 => ?_⟩
      obtain rfl : v1 = v2 := i1.one hok i2
      have b1 := agg_bg hv (by omega) i1
      have s := (s.trans s7).trans s8
      refine ⟨sm_scal b1 b1, _, rfl, neF rfl ?_⟩
      refine ⟨_, rfl, .ref Y, .list (ys.map vD), rfl, dpY s, rep.1, rep.2.1, rep.2.2.1, rep.2.2.2, _, rfl, rfl, _, rfl, neS rfl ?_⟩
      -- two of the values
      obtain ⟨x, hx, sx⟩ := one_at hv
      obtain ⟨y, hy, sy⟩ := oth_at hv
      refine ⟨_, rfl, by show 1 ≤ sizeLine; decide, fun l1 q1 => ⟨Y, l1, _, [.non], rfl, rfl, atY (s.trans (same_new q1 _)), upd_same, line1000 (by show ys.length + 1 ≤ 1000; omega), fun l2 q2 => ⟨l2, _, _, x, rfl, rfl, SqL.of upd_same, hx, ?_⟩⟩⟩
      have s := (s.trans (same_new q1 (.lst [.non]))).trans (same_new q2 (.lst (ys ++ [.non])))
      refine ⟨by show 1 ≤ sizeLine; decide, fun l3 q3 => ⟨_, rfl, l3, Y, [.int 7], _, rfl, rfl, upd_same, atY (s.trans (same_new q3 _)), line1000 (by show 1 + ys.length ≤ 1000; omega), fun l4 q4 => ⟨1, rfl, l4, _, _, y, rfl, rfl, SqL.of upd_same, hy, ?_⟩⟩⟩
      have s := (s.trans (same_new q3 (.lst [.int 7]))).trans (same_new q4 (.lst ([.int 7] ++ ys)))
      generalize L2.upd _ l4 _ = H9 at s ⊢
      refine ⟨_, _, rfl, ?_⟩
      refine ⟨by show 3 ≤ sizeLine; decide, fun q hq => ⟨q, rfl, ⟨_, SqL.of upd_same⟩, for_list (xs := sgL) (fun j σ H' => ∃ u8, σ = [some (.ref a), some (.ref d), some (.int (0 + (i : Int))), some (.ref Y), some (.str (PyData.list (ys.map vD)).shown), u5, some x, some y, u8, none, none] ∧ Same H5 H' ∧ H' q = some (.lst sgL)) ⟨_, rfl, s.trans (same_new hq _), upd_same⟩ (fun j σ H' _ q => SqL.of q.choose_spec.2.2) ?_ ?_⟩⟩
      · rintro j v σ H' hj ⟨u8, rfl, s, aq⟩
        obtain ⟨hj4, rfl⟩ := sgL_at hj
        have b1 := rec_bg (n := j) sx sy
        have r1 := bg_rep b1
        refine ⟨_, rfl, _, rfl, _, rfl, j, x, y, rfl, hj4, sx, sy, fun H6 s6 => ⟨_, vD _, rfl, v_dp b1.ok, r1.1, r1.2.1, r1.2.2.1, r1.2.2.2, ?_⟩⟩
        refine ⟨_, rfl, _, rfl, _, rfl, j, x, y, rfl, hj4, sx, sy, fun H7 s7 => ⟨_, vD _, rfl, v_dp b1.ok, r1.1, r1.2.1, r1.2.2.1, r1.2.2.2, ?_⟩⟩
        exact ⟨rfl, _, rfl, neS rfl ⟨_, rfl, (s.trans s6).trans s7, s7 _ _ (s6 _ _ aq)⟩⟩
      · rintro σ H' ⟨u8, rfl, s, _⟩
        exact ⟨_, _, _, _, _, _, _, p5, rfl, T5.same s, by push_cast; omega⟩
  · rintro σ H1 ⟨u2, u3, u4, u5, u6, u7, u8, p, rfl, _, _⟩
    rfl
end Ask
namespace Ask
open PySem L2 PyProof.Rows
theorem all_mk {l : PySem.W.OpenLaw} {w : World} {K : PySem.W.Frag} {h : Heap} {mg : Str → Option Value} {f1 f2 f3 f4 f5 f6 f7 f8 f9 f10 f11 f12 fa : Addr} (X : K.In h) (G : h.Ns mainGlobals mg) (hfa : mg "law" = some (.ref fa))
    {od1 an1 : Option Addr} {sl1 : Array (Option Value)} {oc1 kV1 dc1 pm1 cd1 ct1 : Value} {od2 an2 : Option Addr} {sl2 : Array (Option Value)} {oc2 kV2 dc2 pm2 cd2 ct2 : Value} {od3 an3 : Option Addr} {sl3 : Array (Option Value)} {oc3 kV3 dc3 pm3 cd3 ct3 : Value} {od4 an4 : Option Addr} {sl4 : Array (Option Value)} {oc4 kV4 dc4 pm4 cd4 ct4 : Value} {od5 an5 : Option Addr} {sl5 : Array (Option Value)} {oc5 kV5 dc5 pm5 cd5 ct5 : Value} {od6 an6 : Option Addr} {sl6 : Array (Option Value)} {oc6 kV6 dc6 pm6 cd6 ct6 : Value} {od7 an7 : Option Addr} {sl7 : Array (Option Value)} {oc7 kV7 dc7 pm7 cd7 ct7 : Value} {od8 an8 : Option Addr} {sl8 : Array (Option Value)} {oc8 kV8 dc8 pm8 cd8 ct8 : Value} {od9 an9 : Option Addr} {sl9 : Array (Option Value)} {oc9 kV9 dc9 pm9 cd9 ct9 : Value} {od10 an10 : Option Addr} {sl10 : Array (Option Value)} {oc10 kV10 dc10 pm10 cd10 ct10 : Value} {od11 an11 : Option Addr} {sl11 : Array (Option Value)} {oc11 kV11 dc11 pm11 cd11 ct11 : Value} {od12 an12 : Option Addr} {sl12 : Array (Option Value)} {oc12 kV12 dc12 pm12 cd12 ct12 : Value}
    (a1 : PySem.W.nsIn K mainGlobals "is_whole" = some (some (.ref f1))) (l1 : K.lookup f1 = some ⟨oc1, od1, .func (PySem.W.fnOf "is_whole" "is_whole" (defArgs sWhole) (defBody sWhole) (defScope sWhole) .none kV1 dc1 pm1 an1 cd1 ct1), sl1⟩) (c1 : PySem.W.codeIn K cd1 "is_whole" = true) (k1 : PySem.W.keepIn K (.ref f1) = true)
    (a2 : PySem.W.nsIn K mainGlobals "value_place" = some (some (.ref f2))) (l2 : K.lookup f2 = some ⟨oc2, od2, .func (PySem.W.fnOf "value_place" "value_place" (defArgs sPlace) (defBody sPlace) (defScope sPlace) .none kV2 dc2 pm2 an2 cd2 ct2), sl2⟩) (c2 : PySem.W.codeIn K cd2 "value_place" = true) (k2 : PySem.W.keepIn K (.ref f2) = true)
    (a3 : PySem.W.nsIn K mainGlobals "reckon" = some (some (.ref f3))) (l3 : K.lookup f3 = some ⟨oc3, od3, .func (PySem.W.fnOf "reckon" "reckon" (defArgs sReckon) (defBody sReckon) (defScope sReckon) .none kV3 dc3 pm3 an3 cd3 ct3), sl3⟩) (c3 : PySem.W.codeIn K cd3 "reckon" = true) (k3 : PySem.W.keepIn K (.ref f3) = true)
    (a4 : PySem.W.nsIn K mainGlobals "aggregate" = some (some (.ref f4))) (l4 : K.lookup f4 = some ⟨oc4, od4, .func (PySem.W.fnOf "aggregate" "aggregate" (defArgs sAgg) (defBody sAgg) (defScope sAgg) .none kV4 dc4 pm4 an4 cd4 ct4), sl4⟩) (c4 : PySem.W.codeIn K cd4 "aggregate" = true) (k4 : PySem.W.keepIn K (.ref f4) = true)
    (a5 : PySem.W.nsIn K mainGlobals "_law_begin" = some (some (.ref f5))) (l5 : K.lookup f5 = some ⟨oc5, od5, .func (PySem.W.fnOf "_law_begin" "_law_begin" (defArgs sBegin) (defBody sBegin) (defScope sBegin) .none kV5 dc5 pm5 an5 cd5 ct5), sl5⟩) (c5 : PySem.W.codeIn K cd5 "_law_begin" = true) (k5 : PySem.W.keepIn K (.ref f5) = true)
    (a6 : PySem.W.nsIn K mainGlobals "_law_draw" = some (some (.ref f6))) (l6 : K.lookup f6 = some ⟨oc6, od6, .func (PySem.W.fnOf "_law_draw" "_law_draw" (defArgs sDraw) (defBody sDraw) (defScope sDraw) .none kV6 dc6 pm6 an6 cd6 ct6), sl6⟩) (c6 : PySem.W.codeIn K cd6 "_law_draw" = true) (k6 : PySem.W.keepIn K (.ref f6) = true)
    (a7 : PySem.W.nsIn K mainGlobals "_law_pick" = some (some (.ref f7))) (l7 : K.lookup f7 = some ⟨oc7, od7, .func (PySem.W.fnOf "_law_pick" "_law_pick" (defArgs sPick) (defBody sPick) (defScope sPick) .none kV7 dc7 pm7 an7 cd7 ct7), sl7⟩) (c7 : PySem.W.codeIn K cd7 "_law_pick" = true) (k7 : PySem.W.keepIn K (.ref f7) = true)
    (a8 : PySem.W.nsIn K mainGlobals "_law_order" = some (some (.ref f8))) (l8 : K.lookup f8 = some ⟨oc8, od8, .func (PySem.W.fnOf "_law_order" "_law_order" (defArgs sOrder) (defBody sOrder) (defScope sOrder) .none kV8 dc8 pm8 an8 cd8 ct8), sl8⟩) (c8 : PySem.W.codeIn K cd8 "_law_order" = true) (k8 : PySem.W.keepIn K (.ref f8) = true)
    (a9 : PySem.W.nsIn K mainGlobals "_law_value" = some (some (.ref f9))) (l9 : K.lookup f9 = some ⟨oc9, od9, .func (PySem.W.fnOf "_law_value" "_law_value" (defArgs sVal) (defBody sVal) (defScope sVal) .none kV9 dc9 pm9 an9 cd9 ct9), sl9⟩) (c9 : PySem.W.codeIn K cd9 "_law_value" = true) (k9 : PySem.W.keepIn K (.ref f9) = true)
    (a10 : PySem.W.nsIn K mainGlobals "_law_reckoned" = some (some (.ref f10))) (l10 : K.lookup f10 = some ⟨oc10, od10, .func (PySem.W.fnOf "_law_reckoned" "_law_reckoned" (defArgs sReckd) (defBody sReckd) (defScope sReckd) .none kV10 dc10 pm10 an10 cd10 ct10), sl10⟩) (c10 : PySem.W.codeIn K cd10 "_law_reckoned" = true) (k10 : PySem.W.keepIn K (.ref f10) = true)
    (a11 : PySem.W.nsIn K mainGlobals "_law_totalled" = some (some (.ref f11))) (l11 : K.lookup f11 = some ⟨oc11, od11, .func (PySem.W.fnOf "_law_totalled" "_law_totalled" (defArgs sTotd) (defBody sTotd) (defScope sTotd) .none kV11 dc11 pm11 an11 cd11 ct11), sl11⟩) (c11 : PySem.W.codeIn K cd11 "_law_totalled" = true) (k11 : PySem.W.keepIn K (.ref f11) = true)
    (a12 : PySem.W.nsIn K mainGlobals "law" = some (some (.ref f12))) (l12 : K.lookup f12 = some ⟨oc12, od12, .func (PySem.W.fnOf "law" "law" (defArgs sLaw) (defBody sLaw) (defScope sLaw) .none kV12 dc12 pm12 an12 cd12 ct12), sl12⟩) (c12 : PySem.W.codeIn K cd12 "law" = true) (k12 : PySem.W.keepIn K (.ref f12) = true)
    (z0 : PySem.W.nsIn K mainGlobals "len" = some none)    (z1 : PySem.W.nsIn K mainGlobals "int" = some none)    (z2 : PySem.W.nsIn K mainGlobals "str" = some none)    (z3 : PySem.W.nsIn K mainGlobals "bool" = some none)    (z4 : PySem.W.nsIn K mainGlobals "isinstance" = some none)    (z5 : PySem.W.nsIn K mainGlobals "set" = some none)    (z6 : PySem.W.nsIn K mainGlobals "sum" = some none)    (z7 : PySem.W.nsIn K mainGlobals "min" = some none)    (z8 : PySem.W.nsIn K mainGlobals "max" = some none)    (z9 : PySem.W.nsIn K mainGlobals "range" = some none)    (z10 : PySem.W.nsIn K mainGlobals "repr" = some none)    (z11 : PySem.W.nsIn K mainGlobals "sorted" = some none)
    {DA : Addr} (xk : kV4 = .ref DA) (xd : PySem.W.nsIn K DA "distinct" = some (some (.bool false))) :
    ∃ fd : FuncData, Fun K "law" "law" sLaw fa fd ∧ (∀ (s : Shared) (u : Value), BindsTo s fd ⟨[u], []⟩ [("_law_script", u)]) ∧ ∀ (base : Heap) (s₁ : Shared) (H : Hp) (a : Addr) (ns : List Int) (cdv : Value), K.In base → base.Ns mainGlobals mg → SqL K H a (ns.map V.int) → ns.length ≤ 63 →
      Room 4 (callerA.deeper (envOfC "law" (defScope sLaw) s₁.heap.objs.size fa cdv)) → (callerA.deeper (envOfC "law" (defScope sLaw) s₁.heap.objs.size fa cdv)).guards = some [] →
      ∃ t, PSs (cxOf CX0 l.prog w K mg base n_law "law" (defScope sLaw) fa cdv callerA [] s₁ H fun _ _ _ => False).nox (defBody sLaw) t ∧ t { nx := fun _ _ => V.non = V.bl true, rt := fun v _ => v = .bl true } (start n_law [.ref a]) H := by
  have e := hfa.symm.trans (PySem.W.mg_of X G a12)
  cases e
  have B : Blt mg := ⟨PySem.W.mg_none_of X G z0, PySem.W.mg_none_of X G z1, PySem.W.mg_none_of X G z2, PySem.W.mg_none_of X G z3, PySem.W.mg_none_of X G z4, PySem.W.mg_none_of X G z5, PySem.W.mg_none_of X G z6, PySem.W.mg_none_of X G z7, PySem.W.mg_none_of X G z8, PySem.W.mg_none_of X G z9, PySem.W.mg_none_of X G z10, PySem.W.mg_none_of X G z11⟩
  have F1 := fun_mk (st := sWhole) l1 c1 k1
  have b1 := F1.binds (ps := ["thing"]) fun _ _ _ _ _ _ us hl => match us, hl with | [_], _ => rfl
  have F2 := fun_mk (st := sPlace) l2 c2 k2
  have b2 := F2.binds (ps := ["value"]) fun _ _ _ _ _ _ us hl => match us, hl with | [_], _ => rfl
  have F3 := fun_mk (st := sReckon) l3 c3 k3
  have b3 := F3.binds (ps := ["sign", "one", "other"]) fun _ _ _ _ _ _ us hl => match us, hl with | [_, _, _], _ => rfl
  have F4 := fun_mk (st := sAgg) l4 c4 k4
  have F5 := fun_mk (st := sBegin) l5 c5 k5
  have b5 := F5.binds (ps := ["_law_script"]) fun _ _ _ _ _ _ us hl => match us, hl with | [_], _ => rfl
  have F6 := fun_mk (st := sDraw) l6 c6 k6
  have b6 := F6.binds (ps := ["_law_tape", "_law_many"]) fun _ _ _ _ _ _ us hl => match us, hl with | [_, _], _ => rfl
  have F7 := fun_mk (st := sPick) l7 c7 k7
  have b7 := F7.binds (ps := ["_law_tape", "_law_items"]) fun _ _ _ _ _ _ us hl => match us, hl with | [_, _], _ => rfl
  have F8 := fun_mk (st := sOrder) l8 c8 k8
  have b8 := F8.binds (ps := ["_law_value_here"]) fun _ _ _ _ _ _ us hl => match us, hl with | [_], _ => rfl
  have F9 := fun_mk (st := sVal) l9 c9 k9
  have b9 := F9.binds (ps := ["_law_tape", "_law_kind"]) fun _ _ _ _ _ _ us hl => match us, hl with | [_, _], _ => rfl
  have F10 := fun_mk (st := sReckd) l10 c10 k10
  have b10 := F10.binds (ps := ["_law_sign", "_law_one", "_law_other"]) fun _ _ _ _ _ _ us hl => match us, hl with | [_, _, _], _ => rfl
  have F11 := fun_mk (st := sTotd) l11 c11 k11
  have b11 := F11.binds (ps := ["_law_word", "_law_values", "_law_is_distinct"]) fun _ _ _ _ _ _ us hl => match us, hl with | [_, _, _], _ => rfl
  have F12 := fun_mk (st := sLaw) l12 c12 k12
  refine ⟨_, F12, fun s v => .of_eq rfl, fun base s₁ H a ns cdv _ _ hS _ hr hg => ?_⟩
  have D1 : Dn l.prog w K mg base 1 "is_whole" ["thing"] spWh := ⟨f1, _, PySem.W.mg_of X G a1, k1, b1, ok_is_whole F1 B⟩
  have D2 : Dn l.prog w K mg base 1 "value_place" ["value"] spPlace := ⟨f2, _, PySem.W.mg_of X G a2, k2, b2, ok_value_place F2 B⟩
  have D3 : Dn l.prog w K mg base 2 "reckon" ["sign", "one", "other"] spRec := ⟨f3, _, PySem.W.mg_of X G a3, k3, b3, ok_reckon F3 B D1⟩
  have FD4 : FunD K "aggregate" "aggregate" (defArgs sAgg) (defBody sAgg) (defScope sAgg) [] [("distinct", .bl false)] f4 _ := ⟨⟨_, _, _, _, _, _, _, _, _, _, rfl, l4, c4, .inl ⟨rfl, rfl⟩, .inr ⟨DA, xk, fun q hq => by rw [List.mem_singleton.mp hq]; exact ⟨_, xd, rfl⟩⟩⟩, k4⟩
  obtain ⟨ds, hds, hbs⟩ := agg_b0 FD4
  have D4 : Da l.prog w K mg base := ⟨f4, _, ds, PySem.W.mg_of X G a4, k4, hds, hbs, agg_kb FD4, ok_aggregate FD4 B D1 D2⟩
  have D5 : Dn l.prog w K mg base 1 "_law_begin" ["_law_script"] (spBegin K) := ⟨f5, _, PySem.W.mg_of X G a5, k5, b5, ok_begin F5⟩
  have D6 : Dn l.prog w K mg base 1 "_law_draw" ["_law_tape", "_law_many"] spDraw := ⟨f6, _, PySem.W.mg_of X G a6, k6, b6, ok_draw F6 B⟩
  have D7 : Dn l.prog w K mg base 2 "_law_pick" ["_law_tape", "_law_items"] (spPick K) := ⟨f7, _, PySem.W.mg_of X G a7, k7, b7, ok_pick F7 B D6⟩
  have D8 : Dn l.prog w K mg base 1 "_law_order" ["_law_value_here"] spPlace := ⟨f8, _, PySem.W.mg_of X G a8, k8, b8, ok_law_order F8 B⟩
  have D9 : Dn l.prog w K mg base 3 "_law_value" ["_law_tape", "_law_kind"] spVal := ⟨f9, _, PySem.W.mg_of X G a9, k9, b9, ok_law_value F9 B D6 D7⟩
  have D10 : Dn l.prog w K mg base 1 "_law_reckoned" ["_law_sign", "_law_one", "_law_other"] spRec := ⟨f10, _, PySem.W.mg_of X G a10, k10, b10, ok_law_reckoned F10 B⟩
  have D11 : Dn l.prog w K mg base 3 "_law_totalled" ["_law_word", "_law_values", "_law_is_distinct"] (spAgg K) := ⟨f11, _, PySem.W.mg_of X G a11, k11, b11, ok_law_totalled F11 B D8⟩
  exact law_body B ⟨D3, D4, D5, D6, D7, D9, D10, D11⟩ hS hr hg

end Ask
open PySem PySem.W PyProof.Rows
set_option maxRecDepth 100000 in
set_option maxHeartbeats 0 in
theorem PySem.Challenge.cw_innerasks_k04_sums_and_aggregates_holds : PySem.Challenge.rw_innerasks_k04_sums_and_aggregates.Holds := by
  w_on; o_law; k_head; (case hw => w_witness2)
  k_fill
  refine Ask.walk_g (l := PySem.Challenge.rw_innerasks_k04_sums_and_aggregates) (n := 63) (k := 4) (x := "_law_script") (qual := "law") (st := Ask.sLaw) (N := Ask.n_law) rfl (by decide) rfl ⟨rfl, by decide, by decide⟩ (fun w h Y => PySem.W.kIn_of Y) Ask.sc_law ?F
  case F =>
    intro w mg fa h KX G hmg
    refine' Ask.all_mk KX G hmg ?a1 ?l1 ?c1 ?k1 ?a2 ?l2 ?c2 ?k2 ?a3 ?l3 ?c3 ?k3 ?a4 ?l4 ?c4 ?k4 ?a5 ?l5 ?c5 ?k5 ?a6 ?l6 ?c6 ?k6 ?a7 ?l7 ?c7 ?k7 ?a8 ?l8 ?c8 ?k8 ?a9 ?l9 ?c9 ?k9 ?a10 ?l10 ?c10 ?k10 ?a11 ?l11 ?c11 ?k11 ?a12 ?l12 ?c12 ?k12 ?z0 ?z1 ?z2 ?z3 ?z4 ?z5 ?z6 ?z7 ?z8 ?z9 ?z10 ?z11 ?xk ?xd
    (case a1 => k_is)
    (case l1 => k_is)
    (case c1 => k_is)
    (case k1 => k_is)
    (case a2 => k_is)
    (case l2 => k_is)
    (case c2 => k_is)
    (case k2 => k_is)
    (case a3 => k_is)
    (case l3 => k_is)
    (case c3 => k_is)
    (case k3 => k_is)
    (case a4 => k_is)
    (case l4 => k_is)
    (case c4 => k_is)
    (case k4 => k_is)
    (case a5 => k_is)
    (case l5 => k_is)
    (case c5 => k_is)
    (case k5 => k_is)
    (case a6 => k_is)
    (case l6 => k_is)
    (case c6 => k_is)
    (case k6 => k_is)
    (case a7 => k_is)
    (case l7 => k_is)
    (case c7 => k_is)
    (case k7 => k_is)
    (case a8 => k_is)
    (case l8 => k_is)
    (case c8 => k_is)
    (case k8 => k_is)
    (case a9 => k_is)
    (case l9 => k_is)
    (case c9 => k_is)
    (case k9 => k_is)
    (case a10 => k_is)
    (case l10 => k_is)
    (case c10 => k_is)
    (case k10 => k_is)
    (case a11 => k_is)
    (case l11 => k_is)
    (case c11 => k_is)
    (case k11 => k_is)
    (case a12 => k_is)
    (case l12 => k_is)
    (case c12 => k_is)
    (case k12 => k_is)
    (case z0 => k_is)
    (case z1 => k_is)
    (case z2 => k_is)
    (case z3 => k_is)
    (case z4 => k_is)
    (case z5 => k_is)
    (case z6 => k_is)
    (case z7 => k_is)
    (case z8 => k_is)
    (case z9 => k_is)
    (case z10 => k_is)
    (case z11 => k_is)
    (case xk => rfl)
    (case xd => k_is)
