import PyProof.Rows.All
import Wide.All
import OpenK.AllK
import Wide.FinOn
import HandS.ForMost
import HandS.Flow
import HandS.Small
import HandS.IsInst
import HandS.RaiseMore
import HandS.Walk
import HandS.FStr
import HandS.Style
import HandS.Codes
import HandS.Star
import HandS.TupLe
import HandS.SortKw
import HandS.Sort
import KE.SortKeyHeap
import HandS.TryOnly
import PySem.Challenge.RW_innerasks_k05_whole_bags
set_option Elab.async false
set_option maxRecDepth 100000
set_option maxHeartbeats 4000000
set_option linter.all false
set_option maxHeartbeats 4000000
set_option linter.all false
namespace Ask
open PySem L2
def top (i : Nat) : Stmt := PySem.Challenge.pw_innerasks_k05_whole_bags.main.body.getD i (.Pass ⟨0, 0, 0, 0⟩)
abbrev sPlace : Stmt := top 1
abbrev sRowPl : Stmt := top 2
abbrev sInOrd : Stmt := top 3
abbrev sBegin : Stmt := top 5
abbrev sDraw : Stmt := top 6
abbrev sPick : Stmt := top 7
abbrev sShuf : Stmt := top 8
abbrev sOrder : Stmt := top 9
abbrev sRowOrd : Stmt := top 10
abbrev sBag : Stmt := top 11
abbrev sVal : Stmt := top 12
abbrev sLaw : Stmt := top 13
/-! ### the tape -/
abbrev kCells : Key := Sum.inr "cells"
abbrev kPlace : Key := Sum.inr "place"
abbrev kLeft : Key := Sum.inr "left"
theorem ne_cp : ¬ (kCells = kPlace) := by decide +kernel
theorem ne_cl : ¬ (kCells = kLeft) := by decide +kernel
theorem ne_pl : ¬ (kPlace = kLeft) := by decide +kernel
theorem ne_pc : ¬ (kPlace = kCells) := by decide +kernel
theorem ne_lc : ¬ (kLeft = kCells) := by decide +kernel
theorem ne_lp : ¬ (kLeft = kPlace) := by decide +kernel
def tapeD (c : Addr) (p l : Int) : List (Key × V) := [(kCells, .ref c), (kPlace, .int p), (kLeft, .int l)]
theorem tape_cells (c : Addr) (p l : Int) : valV (tapeD c p l) kCells = some (.ref c) := by
  unfold tapeD; rw [valV_pos rfl]
theorem tape_place (c : Addr) (p l : Int) : valV (tapeD c p l) kPlace = some (.int p) := by
  unfold tapeD; rw [valV_neg ne_cp, valV_pos rfl]
theorem tape_left (c : Addr) (p l : Int) : valV (tapeD c p l) kLeft = some (.int l) := by
  unfold tapeD; rw [valV_neg ne_cl, valV_neg ne_pl, valV_pos rfl]
theorem tape_put_place (c : Addr) (p l q : Int) : putK (tapeD c p l) kPlace (.int q) = tapeD c q l := by
  unfold putK tapeD
  rw [if_pos (by simp)]
  show [if kCells = kPlace then (kCells, V.int q) else (kCells, V.ref c), if kPlace = kPlace then (kPlace, V.int q) else (kPlace, V.int p), if kLeft = kPlace then (kLeft, V.int q) else (kLeft, V.int l)] = _
  rw [if_neg ne_cp, if_pos rfl, if_neg ne_lp]
theorem tape_put_left (c : Addr) (p l q : Int) : putK (tapeD c p l) kLeft (.int q) = tapeD c p q := by
  unfold putK tapeD
  rw [if_pos (by simp)]
  show [if kCells = kLeft then (kCells, V.int q) else (kCells, V.ref c), if kPlace = kLeft then (kPlace, V.int q) else (kPlace, V.int p), if kLeft = kLeft then (kLeft, V.int q) else (kLeft, V.int l)] = _
  rw [if_neg ne_cl, if_neg ne_pl, if_pos rfl]
/-- a tape at d, p draws of cells done -/
def Tape (H : Hp) (d : Addr) (p : Int) : Prop :=
  ∃ (c : Addr) (ns : List Int) (l : Int), H d = some (.dK (tapeD c p l)) ∧ H c = some (.lst (ns.map V.int)) ∧ ns ≠ [] ∧ 0 ≤ l ∧ 0 ≤ p
/-- all that was tracked is as it was, but for d, whose cells are the same -/
structure Off (H H' : Hp) (d : Addr) : Prop where
  keep : ∀ b o, H b = some o → b ≠ d → H' b = some o
  cell : ∀ kvs : List (Key × V), H d = some (.dK kvs) → ∃ kvs' : List (Key × V), H' d = some (.dK kvs') ∧ valV kvs' kCells = valV kvs kCells
instance {H H' : Hp} {d : Addr} : CoeFun (Off H H' d) (fun _ => ∀ b o, H b = some o → b ≠ d → H' b = some o) := ⟨Off.keep⟩
theorem Off.refl (H : Hp) (d : Addr) : Off H H d := ⟨fun _ _ h _ => h, fun kvs h => ⟨kvs, h, rfl⟩⟩
theorem Off.trans {H H1 H2 : Hp} {d : Addr} (a : Off H H1 d) (b : Off H1 H2 d) : Off H H2 d := ⟨fun c o h n => b c o (a c o h n) n, fun kvs h => by
  obtain ⟨k1, h1, e1⟩ := a.cell kvs h
  obtain ⟨k2, h2, e2⟩ := b.cell k1 h1
  exact ⟨k2, h2, e2.trans e1⟩⟩
theorem Off.of_same {H H1 : Hp} {d : Addr} (a : Same H H1) : Off H H1 d := ⟨fun c u h _ => a c u h, fun kvs h => ⟨kvs, a _ _ h, rfl⟩⟩
theorem Off.new {H H1 : Hp} {d p : Addr} (a : Off H H1 d) (hp : H1 p = none) (o : HO) : Off H (L2.upd H1 p o) d := a.trans (.of_same fun b u e => by rw [upd_ne (ne_of_none e hp)]; exact e)
theorem Tape.new {H : Hp} {d p : Addr} {i : Int} (t : Tape H d i) (hp : H p = none) (o : HO) : Tape (L2.upd H p o) d i := by
  obtain ⟨c, ns, l, h1, h2, h3, h4, h5⟩ := t
  exact ⟨c, ns, l, by rw [upd_ne (ne_of_none h1 hp)]; exact h1, by rw [upd_ne (ne_of_none h2 hp)]; exact h2, h3, h4, h5⟩
theorem Tape.same {H H1 : Hp} {d : Addr} {i : Int} (t : Tape H d i) (a : Same H H1) : Tape H1 d i := by
  obtain ⟨c, ns, l, h1, h2, h3, h4, h5⟩ := t
  exact ⟨c, ns, l, a _ _ h1, a _ _ h2, h3, h4, h5⟩
theorem Off.fresh {H H1 : Hp} {d D : Addr} (a : Off H H1 d) (hD : H D = none) (n : d ≠ D) (u : HO) : Off H (L2.upd H1 D u) d :=
  ⟨fun b o e nb => by rw [upd_ne (ne_of_none e hD)]; exact a b o e nb, fun kvs e => by
    obtain ⟨k1, h1, e1⟩ := a.cell kvs e
    exact ⟨k1, by rw [upd_ne n]; exact h1, e1⟩⟩
/-- a list that was made since, changed -/
theorem Tape.fresh {H0 H : Hp} {d D : Addr} {p0 p : Int} (T : Tape H d p) (T0 : Tape H0 d p0) (o : Off H0 H d) (hD : H0 D = none) (u : HO) : Tape (L2.upd H D u) d p := by
  obtain ⟨c0, ns0, l0, u1, u2, u3, u4, u5⟩ := T0
  obtain ⟨c, ns, l, h1, h2, h3, h4, h5⟩ := T
  obtain ⟨kvs, e1, e2⟩ := o.cell _ u1
  rw [h1] at e1
  have e3 : tapeD c p l = kvs := HO.dK.inj (Option.some.inj e1)
  rw [← e3, tape_cells, tape_cells] at e2
  have e4 : c = c0 := V.ref.inj (Option.some.inj e2)
  subst e4
  exact ⟨c, ns, l, by rw [upd_ne (ne_of_none u1 hD)]; exact h1, by rw [upd_ne (ne_of_none u2 hD)]; exact h2, h3, h4, h5⟩
theorem Tape.at {H : Hp} {d : Addr} {i : Int} (t : Tape H d i) : ∃ kvs, H d = some (.dK kvs) := let ⟨_, _, _, h, _⟩ := t; ⟨_, h⟩

/-! ### a def of the text, with all that a caller wants of it -/
structure Dn (P : Program) (w : World) (K : PySem.W.Frag) (mg : Str → Option Value) (base : Heap) (k : Nat) (x : Str) (ps : List Str) (sp : Sp) : Prop where
  ex : ∃ (f : Addr) (fd : FuncData), mg x = some (.ref f) ∧ PySem.W.keepIn K (.ref f) = true ∧ Binds K fd ps [] ∧ FnOk P w K mg base CX0 k f fd ps sp
theorem pe_dn {X : Cx} {k : Nat} {x : Str} {ps : List Str} {sp : Sp} {e : Expr} {es : List Expr} {t : TA} {p pos : Pos} (D : Dn X.prog X.w X.K X.mg X.base k x ps sp) (hr : Room k X.A) (hg : Gl X x) (ha : PA X (e :: es) t) (hdb : (x == ("__debug__" : Str)) = false := by decide)
    (he : starEach (e :: es) X.env = (false, eval e X.env) :: starEach es X.env := by rfl) (hpl : (backTo pos (starEach es X.env)).any (·.1) = false := by rfl) : PE X (.Call (.Name x p) (e :: es) [] pos) (tCall sp [] E0 t) := by
  obtain ⟨f, fd, hm, kp, hb, F⟩ := D.ex
  exact pe_call F hr hg hm kp hb .nil pass0 ha hdb he hpl
theorem pe_dn0 {X : Cx} {k : Nat} {x : Str} {ps : List Str} {sp : Sp} {p pos : Pos} (D : Dn X.prog X.w X.K X.mg X.base k x ps sp) (hr : Room k X.A) (hg : Gl X x) (hdb : (x == ("__debug__" : Str)) = false := by decide) : PE X (.Call (.Name x p) [] [] pos) (tCall sp [] E0 tNil) := by
  obtain ⟨f, fd, hm, kp, hb, F⟩ := D.ex
  exact pe_call0 F hr hg hm kp hb .nil pass0 hdb
/-- the built-ins that the module leaves as they are -/
structure Blt (mg : Str → Option Value) : Prop where
  len : mg "len" = none
  int : mg "int" = none
  str : mg "str" = none
  isi : mg "isinstance" = none
  tuple : mg "tuple" = none
  list : mg "list" = none
  range : mg "range" = none
  sorted : mg "sorted" = none

section
variable {P : Program} {w : World} {K : PySem.W.Frag} {mg : Str → Option Value} {base : Heap}
theorem boot_int : bootBuiltins ("int" : Str) = some (.type "int") := by decide +kernel
/-! ### _law_draw -/
def spDraw : Sp := fun vs H Q _ => ∃ (d : Addr) (m p : Int), vs = [.ref d, .int m] ∧ 0 < m ∧ m < 1073741824 ∧ Tape H d p ∧ p < 1000000000 ∧
  ∀ (n p' : Int) (H' : Hp), 0 ≤ n → n < m → Tape H' d p' → p' ≤ p + 1 → Off H H' d → Q (.int n) H'
abbrev nD : List Str := ["_law_tape", "_law_many", "_law_place", "_law_size", "_law_cell", "_law_found"]
theorem scD : FnScope nD ["_law_tape", "_law_many"] (defScope sDraw) := ⟨rfl, rfl, rfl, by decide +kernel, rfl, by decide +kernel, by decide +kernel⟩
theorem dg_left {H : Hp} {d c : Addr} {p l : Int} (h : H d = some (.dK (tapeD c p l))) : DGet H d (.str "left") (some (.int l)) := .inl ⟨_, kLeft, .inl h, rfl, (tape_left c p l).symm⟩
theorem dg_place {H : Hp} {d c : Addr} {p l : Int} (h : H d = some (.dK (tapeD c p l))) : DGet H d (.str "place") (some (.int p)) := .inl ⟨_, kPlace, .inl h, rfl, (tape_place c p l).symm⟩
theorem dg_cells {H : Hp} {d c : Addr} {p l : Int} (h : H d = some (.dK (tapeD c p l))) : DGet H d (.str "cells") (some (.ref c)) := .inl ⟨_, kCells, .inl h, rfl, (tape_cells c p l).symm⟩
theorem dp_left {H : Hp} {d c : Addr} {p l q : Int} (h : H d = some (.dK (tapeD c p l))) : DPut H d (.str "left") (.int q) (L2.upd H d (.dK (tapeD c p q))) :=
  .inl ⟨_, kLeft, h, rfl, small1000 (show 3 ≤ 1000 by decide), by rw [tape_put_left]⟩
theorem dp_place {H : Hp} {d c : Addr} {p l q : Int} (h : H d = some (.dK (tapeD c p l))) : DPut H d (.str "place") (.int q) (L2.upd H d (.dK (tapeD c q l))) :=
  .inl ⟨_, kPlace, h, rfl, small1000 (show 3 ≤ 1000 by decide), by rw [tape_put_place]⟩
theorem Off.put {H H1 : Hp} {d c : Addr} {p l : Int} (a : Off H H1 d) (h : H1 d = some (.dK (tapeD c p l))) (p' l' : Int) : Off H (L2.upd H1 d (.dK (tapeD c p' l'))) d := a.trans ⟨fun b u e n => by rw [upd_ne n]; exact e, fun kvs e => by
  rw [h] at e
  have e3 : tapeD c p l = kvs := HO.dK.inj (Option.some.inj e)
  exact ⟨_, upd_same, by rw [← e3, tape_cells, tape_cells]⟩⟩
theorem two_line : (2 : Nat) ≤ sizeLine := by decide
theorem ok_draw {f : Addr} {fd : FuncData} (F : Fun K "_law_draw" "_law_draw" sDraw f fd) (B : Blt mg) : FnOk P w K mg base CX0 1 f fd ["_law_tape", "_law_many"] spDraw := by
  refine F.ok scD (fun vs H Q E h => ?_) (fun cdv A outer s H vs Q E hr h => ?_)
  · obtain ⟨d, m, p, rfl, _⟩ := h
    rfl
  · obtain ⟨d, m, p, rfl, m0, m1, T, p1, k⟩ := h
    have hu := hu_of hr
    obtain ⟨c, ns, l, hd, hc, hne, l0, p0⟩ := T
    have hcd : c ≠ d := (ne_of hd hc (by intro z; cases z)).symm
    obtain ⟨tB, hB, qB⟩ : ∃ tB, PSs (cxOf CX0 P w K mg base nD "_law_draw" (defScope sDraw) f cdv A outer s H E).nox ((defBody sDraw).drop 1) tB ∧ ∀ (v2 v3 v4 : Option V) (p' l' : Int) (H1 : Hp),
        H1 d = some (.dK (tapeD c p' l')) → 0 ≤ l' → 0 ≤ p' → p' ≤ p + 1 → Off H H1 d → tB { nx := fun _ H' => Q .non H', rt := Q } [some (.ref d), some (.int m), v2, v3, v4, none] H1 := by
      refine ⟨_, pss_cons (ps_asg (pe_tup (pa_cons (pe_op op_mod (pe_callTy call_int1 (by rfl) B.int boot_int (pa_cons (pe_dget hu (pv 0) pe_str (fun _ _ => rfl)) pa_nil)) (pv 1)) (pa_cons (pe_op op_fdiv (pe_dget hu (pv 0) pe_str (fun _ _ => rfl)) (pv 1)) pa_nil)))
            (pg_tup rfl (pgs_cons (pg_name (i := 5) scD.nd rfl (.inl rfl)) (pgs_cons (pg_sub (pv 0) pe_str (set_dict hu)) pgs_nil))))
        (pss_one (ps_ret (pv 5))), fun v2 v3 v4 p' l' H1 h1 l1 q0 q1 of => ?_⟩
      refine ⟨_, rfl, d, _, rfl, dg_left h1, .inl ⟨_, rfl, _, rfl, _, _, rfl, rfl, m0, _, rfl, d, _, rfl, dg_left h1, _, rfl, _, _, rfl, rfl, ⟨m0, m1⟩, two_line, fun t ht => ?_⟩⟩
      have htd : d ≠ t := ne_of_none h1 ht
      refine ⟨t, _, rfl, SqT.of upd_same, rfl, _, _, rfl, _, _, rfl, _, rfl, d, _, rfl, dp_left (by rw [upd_ne htd]; exact h1), rfl, _, rfl, ?_⟩
      have o2 : Off H (L2.upd (L2.upd H1 t (.tup [.int (l' % m), .int (l' / m)])) d (.dK (tapeD c p' (l' / m)))) d := (of.new ht _).put (by rw [upd_ne htd]; exact h1) _ _
      exact k _ p' _ (Int.emod_nonneg _ (by omega)) (Int.emod_lt_of_pos _ m0) ⟨c, ns, l' / m, upd_same, o2 _ _ hc hcd, hne, Int.ediv_nonneg l1 (by omega), q0⟩ q1 o2
    refine ⟨_, pss_cons (ps_if (pt_cmpR op_lt (pe_dget hu (pv 0) pe_str (fun _ _ => rfl)) (pv 1) (nomark _))
        (pss_cons (ps_par (i := 2) (j := 3) rfl scD.nd rfl rfl (by decide) rfl rfl (pa_cons (pe_dget hu (pv 0) pe_str (fun _ _ => rfl)) (pa_cons (pe_callB call_len_seq (by rfl) B.len PySem.boot_len (pa_cons (pe_dget hu (pv 0) pe_str (fun _ _ => rfl)) pa_nil)) pa_nil)) (by rfl))
        (pss_cons (ps_asg (pe_tup (pa_cons (pe_ix ix_list (pe_dget hu (pv 0) pe_str (fun _ _ => rfl)) (pe_op op_mod (pe_callTy call_int1 (by rfl) B.int boot_int (pa_cons (pv 2) pa_nil)) (pv 3)) (fun _ _ => rfl)) (pa_cons (pe_op op_add (pv 2) pe_int) pa_nil)))
            (pg_tup rfl (pgs_cons (pg_name (i := 4) scD.nd rfl (.inl rfl)) (pgs_cons (pg_sub (pv 0) pe_str (set_dict hu)) pgs_nil))))
        (pss_cons (ps_dput hu (pv 0) pe_str (pe_op op_mod (pe_callTy call_int1 (by rfl) B.int boot_int (pa_cons (pe_op op_pow (pe_op op_add (pe_op op_add (pe_op op_mod (pe_callTy call_int1 (by rfl) B.int boot_int (pa_cons (pv 4) pa_nil)) pe_int) (pe_op op_mul pe_int (pv 2))) pe_int) pe_int) pa_nil)) (pe_op op_add (pe_op op_pow pe_int pe_int) pe_int)) rfl)
        (pss_one (ps_if (pw_and (pt_cmpR op_ge (pv 4) (pe_op op_pow pe_int pe_int) (nomark _)) (pw_and1 (pt_cmpR op_lt (pv 2) (pv 3) (nomark _)))).pt
          (pss_one (ps_dput hu (pv 0) pe_str (pe_op op_sub (pv 4) (pe_op op_pow pe_int pe_int)) rfl)) pss_nil))))) pss_nil) hB, ?_⟩
    refine ⟨_, rfl, d, _, rfl, dg_left hd, _, rfl, _, _, rfl, rfl, _, rfl, ite2 (fun _ => ?_) (fun _ => qB _ _ _ p l H hd l0 p0 (by omega) (.refl _ _))⟩
    have hlen : 0 < ns.length := List.length_pos_iff.mpr hne
    have hml : (ns.map V.int).length = ns.length := List.length_map _
    obtain ⟨z, hz⟩ : ∃ z : Int, atI (ns.map V.int) (p % (ns.map V.int).length) = some (.int z) := by
      have h1 : 0 ≤ p % (ns.map V.int).length := Int.emod_nonneg _ (by omega)
      have h2 : p % (ns.map V.int).length < (ns.map V.int).length := Int.emod_lt_of_pos _ (by omega)
      have h3 : (p % (ns.map V.int).length).toNat < ns.length := by omega
      exact ⟨ns[(p % (ns.map V.int).length).toNat], at_of (j := (p % (ns.map V.int).length).toNat) (by omega) (by rw [List.getElem?_map, List.getElem?_eq_getElem h3]; rfl)⟩
    -- place, size; cell, tape['place']
    refine ⟨_, rfl, d, _, rfl, dg_place hd, _, rfl, d, _, rfl, dg_cells hd, c, _, rfl, .inl (SqL.of hc), _, _, rfl, ?_⟩
    refine ⟨_, rfl, d, _, rfl, dg_cells hd, _, rfl, .inl ⟨_, rfl, _, rfl, _, _, rfl, rfl, (by omega), c, _, _, _, rfl, rfl, SqL.of hc, hz, _, rfl, _, _, rfl, rfl, two_line, fun t ht => ?_⟩⟩
    have htd : d ≠ t := ne_of_none hd ht
    refine ⟨t, _, rfl, SqT.of upd_same, rfl, _, _, rfl, _, _, rfl, _, rfl, d, _, rfl, dp_place (by rw [upd_ne htd]; exact hd), rfl, ?_⟩
    -- tape['left']
    have e1 := Int.emod_nonneg z (show (2147483629 : Int) ≠ 0 by decide)
    have e2 := Int.emod_lt_of_pos z (show (0 : Int) < 2147483629 by decide)
    refine ⟨_, rfl, .inl ⟨_, rfl, _, _, rfl, rfl, (by show (0 : Int) < 2147483629; decide), _, rfl, _, _, rfl, rfl, .inl ⟨by decide, by decide⟩, _, _, rfl, rfl, _, _, rfl, rfl, _, _, rfl, rfl, ⟨by decide, by decide, by omega⟩, .inl ⟨_, rfl, _, _, rfl, rfl, ⟨by decide, by decide, by decide⟩, _, _, rfl, rfl, _, _, rfl, rfl, (by show (0 : Int) < 10 ^ (50 : Int).toNat + 57; decide), _, rfl, d, _, rfl, dp_left upd_same, ?_⟩⟩⟩
    rw [upd_upd]
    have l2 : ∀ x : Int, 0 ≤ x % (10 ^ (50 : Int).toNat + 57) := fun x => Int.emod_nonneg _ (by decide)
    have of : ∀ q, Off H (L2.upd (L2.upd H t (.tup [.int z, .int (p + 1)])) d (.dK (tapeD c (p + 1) q))) d := fun q => ((Off.refl H d).new ht _).put (by rw [upd_ne htd]; exact hd) _ _
    refine ⟨_, rfl, _, _, rfl, rfl, ⟨by decide, by decide, by decide⟩, _, _, rfl, rfl, _, rfl, ite2 (fun hz18 => ?_) (fun _ => ?_)⟩
    · refine ⟨_, rfl, _, rfl, _, _, rfl, rfl, _, rfl, ite2 (fun _ => ?_) (fun _ => ?_)⟩
      · have hz18 := of_decide_eq_true hz18
        refine ⟨_, rfl, _, _, rfl, rfl, ⟨by decide, by decide, by decide⟩, _, _, rfl, rfl, _, rfl, d, _, rfl, dp_left upd_same, ?_⟩
        rw [upd_upd]
        exact qB _ _ _ (p + 1) _ _ upd_same (by omega) (by omega) (by omega) (of _)
      · exact qB _ _ _ (p + 1) _ _ upd_same (l2 _) (by omega) (by omega) (of _)
    · exact qB _ _ _ (p + 1) _ _ upd_same (l2 _) (by omega) (by omega) (of _)
end
end Ask
namespace Ask
open PySem L2
section
variable {P : Program} {w : World} {K : PySem.W.Frag} {mg : Str → Option Value} {base : Heap}
/-! ### _law_begin -/
def spBegin (K : PySem.W.Frag) : Sp := fun vs H Q _ => ∃ (a : Addr) (ns : List Int), vs = [.ref a] ∧ SqL K H a (ns.map V.int) ∧ ∀ (d : Addr) (H' : Hp), H d = none → Tape H' d 0 → Same H H' → Q (.ref d) H'
abbrev nBg : List Str := ["_law_script"]
theorem scBg : FnScope nBg ["_law_script"] (defScope sBegin) := ⟨rfl, rfl, rfl, by decide +kernel, rfl, by decide +kernel, by decide +kernel⟩
theorem merge_tape (c : Addr) (p l : Int) : mergeK [] (tapeD c p l) = tapeD c p l := by
  have e1 : putK ([] : List (Key × V)) kCells (.ref c) = [(kCells, .ref c)] := putK_new _ rfl
  have e2 : putK [(kCells, V.ref c)] kPlace (.int p) = [(kCells, .ref c), (kPlace, .int p)] := putK_new _ (by rw [valV_neg ne_cp, valV_nil])
  have e3 : putK [(kCells, V.ref c), (kPlace, V.int p)] kLeft (.int l) = tapeD c p l := putK_new _ (by rw [valV_neg ne_cl, valV_neg ne_pl, valV_nil])
  show putK (putK (putK ([] : List (Key × V)) kCells (.ref c)) kPlace (.int p)) kLeft (.int l) = _
  rw [e1, e2, e3]
theorem cut_ints (ns : List Int) (lo hi : Option Int) : ∃ ms : List Int, cutV (ns.map V.int) lo hi = ms.map V.int := by
  unfold cutV
  exact ⟨(ns.drop _).take _, by rw [List.map_take, List.map_drop]⟩
theorem ok_begin {f : Addr} {fd : FuncData} (F : Fun K "_law_begin" "_law_begin" sBegin f fd) : FnOk P w K mg base CX0 1 f fd ["_law_script"] (spBegin K) := by
  refine F.ok scBg (fun vs H Q E h => ?_) (fun cdv A outer s H vs Q E hr h => ?_)
  · obtain ⟨a, ns, rfl, _⟩ := h
    rfl
  · obtain ⟨a, ns, rfl, hs, k⟩ := h
    refine ⟨_, pss_one (ps_ret (pe_disp (pps_cons pe_str (pe_orT (pe_slice sl_list (pv 0) po_none (po_some pe_int)) (pe_one (pe_lst (pa_cons pe_int pa_nil)))) (pps_cons pe_str pe_int (pps_cons pe_str pe_int pps_nil))) rfl rfl (by intro z; cases z) (by decide))), ?_⟩
    intro d hd
    have s1 : Same H (L2.upd H d (.dK [])) := fun b o e => by rw [upd_ne (ne_of_none e hd)]; exact e
    refine ⟨_, rfl, _, rfl, a, _, rfl, s1.seq hs, fun c hc => ?_⟩
    obtain ⟨ms, em⟩ := cut_ints ns none (some 63)
    have ncd : d ≠ c := ne_of_none upd_same hc
    have s2 : ∀ o, Same H (L2.upd (L2.upd H d (.dK [])) c o) := fun o b u e => by rw [upd_ne (ne_of_none (s1 _ _ e) hc)]; exact s1 _ _ e
    have fin : ∀ (c : Addr) (ms : List Int) (H1 : Hp), ms ≠ [] → Same H H1 → H1 d = some (.dK []) → H1 c = some (.lst (ms.map V.int)) → c ≠ d → Q (.ref d) (L2.upd H1 d (.dK (mergeK [] (tapeD c 0 0)))) := fun c ms H1 hm hs1 h1 h2 hn => by
      rw [merge_tape]
      refine k d _ hd ⟨c, ms, 0, upd_same, by rw [upd_ne hn]; exact h2, hm, by omega, by omega⟩ fun b u e => ?_
      rw [upd_ne (ne_of_none e hd)]
      exact hs1 _ _ e
    rw [em]
    refine ⟨!(ms.map V.int).isEmpty, .inl ⟨_, SqL.of upd_same, rfl⟩, ?_⟩
    cases ms with
    | nil =>
      refine iteF ⟨by show 1 ≤ sizeLine; decide, fun c2 hc2 => ?_⟩
      have n2 : d ≠ c2 := ne_of_none (by rw [upd_ne ncd]; exact upd_same) hc2
      refine ⟨by rw [upd_ne n2, upd_ne ncd]; exact upd_same, tapeD c2 0 0, rfl, by show 3 ≤ 15; decide, ?_⟩
      exact fin c2 [0] _ (by intro z; cases z) (fun b u e => by rw [upd_ne (ne_of_none (s2 _ _ _ e) hc2)]; exact s2 _ _ _ e) (by rw [upd_ne n2, upd_ne ncd]; exact upd_same) upd_same n2.symm
    | cons m ms =>
      refine iteT ?_
      refine ⟨by rw [upd_ne ncd]; exact upd_same, tapeD c 0 0, rfl, by show 3 ≤ 15; decide, ?_⟩
      exact fin c (m :: ms) _ (by intro z; cases z) (s2 _) (by rw [upd_ne ncd]; exact upd_same) upd_same ncd.symm
/-! ### _law_pick -/
/-- v is a list, a tuple or a text with the items xs -/
def Seq3 (K : PySem.W.Frag) (H : Hp) (v : V) (xs : List V) : Prop :=
  (∃ a, v = .ref a ∧ SqL K H a xs) ∨ (∃ a, v = .ref a ∧ SqT K H a xs) ∨ ∃ z : Str, v = .str z ∧ z.length ≤ sizeLine ∧ xs = z.cps.toList.map fun c => V.str ⟨#[c]⟩
theorem Off.seqL {H H' : Hp} {d a : Addr} {kvs : List (Key × V)} {xs : List V} (o : Off H H' d) (hd : H d = some (.dK kvs)) (h : SqL K H a xs) : SqL K H' a xs := by
  rcases h with (h | ⟨u, h⟩) | h
  · exact .inl (.inl (o _ _ h (ne_of h hd (by intro z; cases z))))
  · exact .inl (.inr ⟨u, o _ _ h (ne_of h hd (by intro z; cases z))⟩)
  · exact .inr h
theorem Off.seqT {H H' : Hp} {d a : Addr} {kvs : List (Key × V)} {xs : List V} (o : Off H H' d) (hd : H d = some (.dK kvs)) (h : SqT K H a xs) : SqT K H' a xs := by
  rcases h with (h | ⟨u, h⟩) | h
  · exact .inl (.inl (o _ _ h (ne_of h hd (by intro z; cases z))))
  · exact .inl (.inr ⟨u, o _ _ h (ne_of h hd (by intro z; cases z))⟩)
  · exact .inr h
theorem Seq3.off {H H' : Hp} {d : Addr} {kvs : List (Key × V)} {v : V} {xs : List V} (h : Seq3 K H v xs) (o : Off H H' d) (hd : H d = some (.dK kvs)) : Seq3 K H' v xs := by
  rcases h with ⟨a, e, h⟩ | ⟨a, e, h⟩ | h
  · exact .inl ⟨a, e, o.seqL hd h⟩
  · exact .inr (.inl ⟨a, e, o.seqT hd h⟩)
  · exact .inr (.inr h)
theorem Seq3.len {H : Hp} {v : V} {xs : List V} (h : Seq3 K H v xs) : LenV K v H xs.length := by
  rcases h with ⟨a, rfl, h⟩ | ⟨a, rfl, h⟩ | ⟨z, rfl, hz, rfl⟩
  · exact .inl ⟨xs, h, rfl⟩
  · exact .inr ⟨xs, h, rfl⟩
  · exact ⟨hz, by rw [List.length_map]; rfl⟩
theorem atI_map {α β : Type} (g : α → β) (l : List α) (i : Int) : atI (l.map g) i = (atI l i).map g := by
  unfold atI
  rw [List.length_map]
  cases ixN l.length i with
  | none => rfl
  | some j => simp
theorem Seq3.ix {H : Hp} {v y : V} {xs : List V} {i : Int} {Q : VK} (h : Seq3 K H v xs) (e : atI xs i = some y) (q : Q y H) : rIx K v (.int i) H Q := by
  rcases h with ⟨a, rfl, h⟩ | ⟨a, rfl, h⟩ | ⟨z, rfl, hz, rfl⟩
  · exact .inl ⟨a, xs, i, y, rfl, rfl, h, e, q⟩
  · exact .inr (.inl ⟨a, xs, i, y, rfl, rfl, h, e, q⟩)
  · rw [atI_map] at e
    obtain ⟨c, e1, rfl⟩ := Option.map_eq_some_iff.mp e
    exact .inr (.inr ⟨z, i, c, rfl, rfl, hz, e1, q⟩)
def spPick (K : PySem.W.Frag) : Sp := fun vs H Q _ => ∃ (d : Addr) (v : V) (xs : List V) (p : Int), vs = [.ref d, v] ∧ Tape H d p ∧ p < 1000000000 ∧ Seq3 K H v xs ∧ xs ≠ [] ∧ xs.length < 1073741824 ∧
  ∀ (x : V) (p' : Int) (H' : Hp), x ∈ xs → Tape H' d p' → p' ≤ p + 1 → Off H H' d → Q x H'
abbrev nPk : List Str := ["_law_tape", "_law_items"]
theorem scPk : FnScope nPk ["_law_tape", "_law_items"] (defScope sPick) := ⟨rfl, rfl, rfl, by decide +kernel, rfl, by decide +kernel, by decide +kernel⟩
theorem ok_pick {f : Addr} {fd : FuncData} (F : Fun K "_law_pick" "_law_pick" sPick f fd) (B : Blt mg) (DD : Dn P w K mg base 1 "_law_draw" ["_law_tape", "_law_many"] spDraw) : FnOk P w K mg base CX0 2 f fd ["_law_tape", "_law_items"] (spPick K) := by
  refine F.ok scPk (fun vs H Q E h => ?_) (fun cdv A outer s H vs Q E hr h => ?_)
  · obtain ⟨d, v, xs, p, rfl, _⟩ := h
    rfl
  · obtain ⟨d, v, xs, p, rfl, T, p1, S, hne, hl, k⟩ := h
    have hlen : 0 < xs.length := List.length_pos_iff.mpr hne
    refine ⟨_, pss_one (ps_ret (pe_ix ix_seq (pv 1) (pe_dn DD hr (by rfl) (pa_cons (pv 0) (pa_cons (pe_callB call_len (by rfl) B.len PySem.boot_len (pa_cons (pv 1) pa_nil)) pa_nil))) (fun _ _ => rfl))), ?_⟩
    refine ⟨_, rfl, _, rfl, _, rfl, _, _, rfl, S.len, d, _, p, rfl, by omega, by omega, T, p1, fun n p' H' n0 n1 T' hp o => ?_⟩
    obtain ⟨kvs, hd⟩ := T.at
    have h3 : n.toNat < xs.length := by omega
    exact (S.off o hd).ix (at_of (j := n.toNat) (by omega) (List.getElem?_eq_getElem h3)) (k _ p' H' (List.getElem_mem h3) T' hp o)
end
end Ask
namespace Ask
open PySem L2 PySem.W PyProof.Rows
/-! ### sorted with a key that a def makes -/
theorem room_in2 {k : Nat} {A : Around} (h : Room (k + 1) A) : Room k A.in1.in1 := ⟨h.hd, by have := h.dp; show A.depth + 3 * k + 5 < _; omega, by have := h.un; show A.units + 1 + 1 + 16 * k + 200 < _; omega⟩
theorem each_snoc' {α β : Type} {R : α → β → Prop} {as : List α} {bs : List β} {x : α} {y : β} (h : EachIs R as bs) (e : R x y) : EachIs R (as ++ [x]) (bs ++ [y]) := each_snoc e h
theorem each_of_vals : ∀ {xs : List V} {us : List Value}, Vals xs us → EachIs (fun u v => RelV v u) us xs
  | _, _, .nil => .nil
  | _, _, .cons a r => .cons a (each_of_vals r)
theorem vals_of_each : ∀ {xs : List V} {us : List Value}, EachIs (fun u v => RelV v u) us xs → Vals xs us
  | _, _, .nil => .nil
  | _, _, .cons a r => .cons a (vals_of_each r)
theorem seqT_same {K : PySem.W.Frag} {H H1 : Hp} {a : Addr} {xs : List V} (s : Same H H1) (h : SqT K H a xs) : SqT K H1 a xs := by
  rcases h with (h | ⟨u, h⟩) | h
  · exact .inl (.inl (s _ _ h))
  · exact .inl (.inr ⟨u, s _ _ h⟩)
  · exact .inr h
mutual
theorem dp_same {K : PySem.W.Frag} {H H1 : Hp} (s : Same H H1) : ∀ {v : V} {d : PyData}, Dp K H v d → Dp K H1 v d
  | _, _, .non => .non
  | _, _, .bl b => .bl b
  | _, _, .int i => .int i
  | _, _, .str x => .str x
  | _, _, .lst h r => .lst (Same.seq s h) (dpAll_same s r)
  | _, _, .tup h r => .tup (seqT_same s h) (dpAll_same s r)
theorem dpAll_same {K : PySem.W.Frag} {H H1 : Hp} (s : Same H H1) : ∀ {vs : List V} {ds : List PyData}, DpAll K H vs ds → DpAll K H1 vs ds
  | _, _, .nil => .nil
  | _, _, .cons a r => .cons (dp_same s a) (dpAll_same s r)
end
/-- the keys that are made so far -/
inductive Keys (K : PySem.W.Frag) (H : Hp) : List V → List PyData → Prop
  | nil : Keys K H [] []
  | snoc {vs ds v d} : Keys K H vs ds → Dp K H v d → Keys K H (vs ++ [v]) (ds ++ [d])
theorem Keys.same {K : PySem.W.Frag} {H H1 : Hp} (s : Same H H1) {vs : List V} {ds : List PyData} (h : Keys K H vs ds) : Keys K H1 vs ds := by
  induction h with
  | nil => exact .nil
  | snoc _ d ih => exact .snoc ih (dp_same s d)
section
variable {X : Cx} {pins : List (Addr × Obj)} {σ : L2.St} {H : Hp} {s : Shared} {k : Nat} {f : Addr} {sp : Sp}
theorem each_keysV {K : PySem.W.Frag} (hK : X.K = K) (J : L2.Inv X pins σ H s) : ∀ {vs : List V} {ds : List PyData}, Keys K H vs ds → ∀ {us : List Value}, Vals vs us → EachIs (fun u d => ∃ as, Reads s.heap u d as) us ds := by
  subst hK
  intro vs ds h
  induction h with
  | nil =>
    intro us r
    cases r
    exact .nil
  | @snoc vs ds v d _ dv ih =>
    intro us r
    have rt := r.take vs.length
    have rd := r.drop vs.length
    rw [List.take_left] at rt
    rw [List.drop_left] at rd
    obtain ⟨u, e, ru⟩ := rd.one
    have e2 : us = us.take vs.length ++ [u] := by rw [← e, List.take_append_drop]
    rw [e2]
    exact each_snoc' (ih rt) (Dp.reads J d v u dv ru)
/-! ### keys that are all the empty tuple -/
def EmptyT (h : Heap) (v : Value) : Prop := ∃ (a : Addr) (o : Obj) (n : Nat), v = .ref a ∧ h.get? a = some o ∧ o.cls = .type "tuple" ∧ o.data = .seq #[] n
theorem reads_empty {h : Heap} {v : Value} {as : List Addr} (r : Reads h v (.tuple []) as) : EmptyT h v := by
  obtain ⟨a, o, vs, n, rfl, g, hc, hd, ra⟩ := reads_tuple_inv r
  have e : vs = #[] := by
    generalize hl : vs.toList = l at ra
    cases ra
    exact Array.toList_eq_nil_iff.mp hl
  subst e
  exact ⟨a, o, n, rfl, g, hc, hd⟩
theorem my_mapM {α β : Type} {M : Model} {A : Around} {E : Value → Shared → Prop} {s : Shared} {f : α → Sem β} {c : β} : ∀ (vs : List α) {Q : List β → Shared → Prop}, (∀ v ∈ vs, ∀ Q' : β → Shared → Prop, Q' c s → wpAny M A (f v) Q' E s) → Q (vs.map fun _ => c) s → wpAny M A (List.mapM f vs) Q E s
  | [], Q, _, q => by
    rw [List.mapM_nil]
    exact wpAny_pure q
  | v :: vs, Q, h, q => by
    rw [List.mapM_cons]
    refine wpAny_bind (h v (.head _) _ ?_)
    refine wpAny_bind (my_mapM vs (fun v' hv' => h v' (.tail _ hv')) ?_)
    exact wpAny_pure q
theorem typeOf_empty {M : Model} {A : Around} {E : Value → Shared → Prop} {s : Shared} {v : Value} {Q : Value → Shared → Prop} (e : EmptyT s.heap v) (q : Q (.type "tuple") s) : wpAny M A (typeOf v) Q E s := by
  obtain ⟨a, o, n, rfl, g, hc, hd⟩ := e
  exact (looks_reads (d := .tuple []) (as := []) (reads_tuple_at g hc hd .nil)).here q
theorem kind_empty {M : Model} {A : Around} {E : Value → Shared → Prop} {s : Shared} {vs : List Value} {Q : SortKind → Shared → Prop} (h2 : 2 ≤ vs.length) (hv : ∀ v ∈ vs, EmptyT s.heap v) (q : Q oneType' s) : wpAny M A (keyKind' vs.toArray) Q E s := by
  obtain ⟨v0, vr, rfl⟩ : ∃ v0 vr, vs = v0 :: vr := by
    cases vs with
    | nil => exact absurd h2 (by decide)
    | cons a r => exact ⟨a, r, rfl⟩
  rw [keyKind'_eq, List.mapM_toArray, map_eq_pure_bind]
  refine wpAny_bind (wpAny_bind (my_mapM (v0 :: vr) (c := none) (fun v hv' Q' q' => ?_) (wpAny_pure ?_)))
  · rw [kas_first_eq]
    refine wpAny_bind (typeOf_empty (hv v hv') ?_)
    rw [if_neg (by decide)]
    obtain ⟨a, o, n, rfl, g, hc, hd⟩ := hv v hv'
    refine wpAny_bind (listItems_at g hd ?_)
    exact wpAny_pure q'
  have e1 : (((v0 :: vr).map fun _ => (none : Option Value)).toArray.all fun x => x.isSome) = false := by simp
  rw [if_neg (by rw [e1]; decide)]
  have e2 : ((((v0 :: vr).map fun _ => (none : Option Value)).toArray[0]?).bind id).isSome = false := by simp
  rw [if_neg (by rw [e2]; decide)]
  rw [oneTypeOnly'_eq, List.mapM_toArray, map_eq_pure_bind]
  refine wpAny_bind (wpAny_bind (wpAny_bind (my_mapM (v0 :: vr) (c := .type "tuple") (fun v hv' Q' q' => typeOf_empty (hv v hv') q') (wpAny_pure ?_))))
  have h0 : ((v0 :: vr).map fun _ => Value.type "tuple").toArray[0]? = some (.type "tuple") := by simp
  rw [h0]
  have h1 : ((v0 :: vr).map fun _ => Value.type "tuple").toArray.all (fun x => x == Value.type "tuple") = true := by
    rw [List.all_toArray, List.all_map]
    exact List.all_eq_true.mpr fun _ _ => (show (Value.type "tuple" == Value.type "tuple") = true by decide)
  refine wpAny_pure ?_
  rw [h1]
  exact wpAny_pure q
theorem lt_empty {prog : Program} {w : World} {A : Around} {E : Value → Shared → Prop} {s : Shared} {x y : Value} {Q : Bool → Shared → Prop} (hu : A.units + 2 < cLine) (hx : EmptyT s.heap x) (hy : EmptyT s.heap y) (q : Q false s) : wpAny (model prog w) A (keyLt' oneType' x y) Q E s := by
  obtain ⟨a, o, n, rfl, g, hc, hd⟩ := hx
  obtain ⟨b, o', n', rfl, g', hc', hd'⟩ := hy
  rw [keyLt'_oneType, oneLt'_eq]
  show wpAny _ _ (cRoomFor "comparison" [.ref a, .ref b] >>= _) _ _ _
  refine wpAny_bind (wpAny_cRoomFor (by omega) ?_)
  refine wpAny_bind (wpAny_callSpecialIfBound?_slot (T := "tuple") ⟨o, g, hc⟩ PySem.F.slot_tuple_lt ?_)
  obtain ⟨cls, dict, data, slots⟩ := o
  obtain ⟨cls', dict', data', slots'⟩ := o'
  cases hc
  cases hd
  cases hc'
  cases hd'
  refine call_meets PySem.F.slot_tuple_lt ⟨_, g, rfl⟩ PySem.F.entry_tuple_lt (PySem.F.args_tuple_lt_2 _ _) (SeqAt.tuple_ltAt a b #[] #[] n n' dict dict' slots slots' (fun _ => true) (fun _ => true)) ⟨g, g', fun j h => absurd h (Nat.not_lt_zero _), fun j h => absurd h (Nat.not_lt_zero _), ?_⟩
  show wpAny _ _ (truthOfDropped (.bool false)) _ _ _
  exact wpAny_pure q
theorem each_left {α β : Type} {R : α → β → Prop} {as : List α} {bs : List β} (h : EachIs R as bs) : ∀ a ∈ as, ∃ b, R a b := by
  induction h with
  | nil => exact fun _ h => nomatch h
  | cons h _ ih =>
    intro v hv
    cases hv with
    | head => exact ⟨_, h⟩
    | tail _ hv => exact ih v hv
theorem sorts_empty {prog : Program} {w : World} {A : Around} {s : Shared} {vs : List Value} {ds : List PyData} (er : EachIs (fun v d => ∃ as, Reads s.heap v d as) vs ds) (hal : AllAlike ds) (he : ∀ d ∈ ds, d = .tuple []) (hu : A.units + 2 < cLine) : SortsAt prog w A s (dataKind s.heap ds) vs := by
  have each : ∀ v ∈ vs, EmptyT s.heap v := by
    clear hal hu
    induction er with
    | nil => exact fun _ h => nomatch h
    | cons h _ ih =>
      intro v hv
      cases hv with
      | head =>
        obtain ⟨as, r⟩ := h
        rw [he _ (.head _)] at r
        exact reads_empty r
      | tail _ hv => exact ih (fun d hd => he d (.tail _ hd)) v hv
  have keys : ∀ v ∈ vs, ∃ a, (dataKind s.heap ds).keyOf v = some a := fun v hv => let ⟨_, h⟩ := each_left (each_keys hal er) v hv; ⟨_, h⟩
  refine ⟨keys, oneType', fun E x y a b Q hx hy q => ?_, fun h2 E Q q => kind_empty h2 each q⟩
  obtain ⟨d, as, hd, rd, ea⟩ := dataKind_inv hx
  obtain ⟨d', as', hd', rd', eb⟩ := dataKind_inv hy
  rw [he d hd] at rd ea
  rw [he d' hd'] at rd' eb
  subst ea eb
  refine lt_empty hu (reads_empty rd) (reads_empty rd') ?_
  have := (dataKind s.heap ds).irrefl (keyToks (.tuple []))
  rw [← this]
  exact q
/-- the def is called for a key -/
theorem run_key {Q : VK} {us : List Value} {vs : List V} (F : FnR X.prog X.w X.K X.mg X.base CX0 k f sp) (hr : Room k X.A.in1.in1) (I : L2.Inv X pins σ H s) (r : Vals vs us) (h : sp vs H Q E0) :
    codeAny (model X.prog X.w) X.A.in1.in1 (.call (.ref f) ⟨us, []⟩) (fun r s' => match r with | .ok (.ret u) => EP X pins σ Q u s' | _ => False) s := by
  have e := I.env0
  refine codeAny_mono (F X.A.in1.in1 X.stack s H us vs Q E0 hr ⟨e.frames, e.mod, e.bs, e.bsz, e.funs, e.frf, e.hok, e.bare⟩ r h) fun res s' q => ?_
  match res, q with
  | .ok (.ret u), q => exact I.after q
theorem pins_cons {p : Addr × Obj} (J : L2.Inv X pins σ H s) (h1 : s.heap.get? p.1 = some p.2) (h2 : FpOk X pins H p.1) (h3 : ∀ v : Option Value, p.2.data ≠ Data.cell v) : L2.Inv X (p :: pins) σ H s :=
  J.pins_of fun q hq => by
    cases hq with
    | head => exact ⟨h1, h2.1, h2.2.1, h2.2.2.1, h3⟩
    | tail _ hq => exact J.pin q (List.mem_append_right _ hq)
/-- what is behind the making of the places: keys, order, the list again -/
theorem sortK_rest {E' : Value → Shared → Prop} {Q : VK} {ys : List V} {its : List Value} {kf : V → PyData} {D kS : Addr} {e1 : Nat} (F : FnR X.prog X.w X.K X.mg X.base CX0 k f sp) (hr : Room k X.A.in1.in1) (I : L2.Inv X pins σ H s) (r : Vals ys its) (hz : ys.length ≤ sizeLine)
    (hal : AllAlike (ys.map kf)) (hso : Sortable (ys.map kf) ∨ ∀ d ∈ ys.map kf, d = .tuple []) (hde : ∀ y ∈ ys, (kf y).depth ≤ 60) (hsp : ∀ y ∈ ys, ∀ H1, Same H H1 → sp [y] H1 (fun v H2 => Same H1 H2 ∧ Dp X.K H2 v (kf y)) E0)
    (q : ∀ H1 p, Same H H1 → H1 p = none → Q (.ref p) (L2.upd H1 p (.lst (ys.mergeSort (dataLe false kf)))))
    (hD : FpOk X pins H D) (hS : FpOk X pins H kS) (hne : kS ≠ D) (gD : s.heap.get? D = some (seqObj "list" #[] e1)) (gS : s.heap.get? kS = some (seqObj "list" #[] 0)) :
    wpAny (model X.prog X.w) X.A.in1.in1 (ksk_rest D (.ref f) false its.toArray e1 (.ref kS)) (fun fin s' => fin = .done (.ret .none) ∧ EP X pins σ Q (.ref D) s') E' s := by
  unfold ksk_rest
  refine wpAny_bind (wpAny_rule ?_)
  refine wpAny_bind (wpAny_forIn_array' _ (fun rest _ s' => ∃ (H' : Hp) (kv : List V) (ks : List Value) (n : Nat) (yd yr : List V), ys = yd ++ yr ∧ Vals yr rest ∧ Keys X.K H' kv (yd.map kf) ∧ Vals kv ks ∧ kv.length = yd.length ∧ Same H H' ∧
    L2.Inv X ((D, seqObj "list" #[] e1) :: (kS, seqObj "list" ks.toArray n) :: pins) σ H' s') _ ?_ ?_ _ _ ⟨H, [], [], 0, [], ys, rfl, r, .nil, .nil, rfl, Same.refl H, ?_⟩)
  · rintro x rest _ s' ⟨H', kv, ks, n, yd, yr, rfl, rr, dk, vk, hlen, sm, J⟩
    match yr, rr with
    | y :: yr', .cons ry rr' =>
    have pS := J.pin (kS, seqObj "list" ks.toArray n) (List.mem_append_right _ (.tail _ (.head _)))
    refine wpAny_bind (wpAny_attempt (wpAny_call (codeAny_mono (run_key F hr J (.cons ry .nil) (hsp y (List.mem_append_right _ (.head _)) H' sm)) fun res s2 hq => ?_)))
    match res, hq with
    | .ok (.ret u), ⟨v, H2, J2, rv, sm2, dv⟩ =>
    have pS := J2.pin (kS, seqObj "list" ks.toArray n) (List.mem_append_right _ (.tail _ (.head _)))
    have pD := J2.pin (D, seqObj "list" #[] e1) (List.mem_append_right _ (.head _))
    have hks : ks.length = yd.length := by rw [← vk.length]; exact hlen
    have hsz : ks.toArray.size < sizeLine := by
      have h1 : ks.toArray.size = yd.length := hks
      have h2 : (yd ++ y :: yr').length = yd.length + (yr'.length + 1) := by rw [List.length_append, List.length_cons]
      omega
    refine wpAny_bind (listUpdate_at pS.1 rfl ?_ (by omega) (by rw [Array.size_push]; omega))
    refine wpAny_pure ?_
    have gS2 := get?_update_seq pS.1 (fun xs => xs.push u)
    refine ⟨H2, kv ++ [v], ks ++ [u], (if ((ks.toArray.push u).size == ks.toArray.size) = true then n else n + 1), yd ++ [y], yr', by simp, rr', ?_, vk.append (.cons rv .nil), by rw [List.length_append, List.length_append, hlen]; rfl, sm.trans sm2, ?_⟩
    · rw [List.map_append]
      exact .snoc (dk.same sm2) dv
    · have J3 : L2.Inv X pins σ H2 s2 := J2.pins_of fun q hq => J2.pin q (List.mem_append_right _ (.tail _ (.tail _ hq)))
      have J4 := J3.turnedL (ch := [kS]) (t' := s2.toks) (h' := s2.heap.update kS (Obj.mapSeq fun xs => xs.push u)) (fun b o nb hb => by
        rw [Heap.get?_update_other _ _ (fun e => nb (by rw [e]; exact .head _))]; exact hb) (fun b hb => by
        cases hb with
        | head => exact ⟨pS.2.1, hS.2⟩
        | tail _ h => cases h)
      refine pins_cons (pins_cons J4 ?_ ⟨pS.2.1, hS.2⟩ (fun v e => nomatch e)) ?_ ?_ (fun v e => nomatch e)
      · have e : ks.toArray.push u = (ks ++ [u]).toArray := by simp
        rw [← e]
        exact gS2
      · show (s2.heap.update kS _).get? D = _
        rw [Heap.get?_update_other _ _ hne]
        exact pD.1
      · exact ⟨pD.2.1, hD.2.1, hD.2.2.1, hD.2.2.2.1, hD.2.2.2.2.1, fun q hq => by
          rcases List.mem_append.mp hq with hq | hq
          · exact hD.2.2.2.2.2 q (List.mem_append_left _ hq)
          · cases hq with
            | head => exact hne
            | tail _ hq => exact hD.2.2.2.2.2 q (List.mem_append_right _ hq)⟩
  · rintro _ s' ⟨H', kv, ks, n, yd, yr, hys, rr, dk, vk, hlen, sm, J⟩
    cases rr
    rw [List.append_nil] at hys
    subst hys
    have pS := J.pin (kS, seqObj "list" ks.toArray n) (List.mem_append_right _ (.tail _ (.head _)))
    have pD := J.pin (D, seqObj "list" #[] e1) (List.mem_append_right _ (.head _))
    refine wpAny_bind (listItems_at pS.1 rfl ?_)
    have er := each_keysV rfl J dk vk
    have each := keyedOut_each (rev := false) (vs := its) kf ⟨s'.heap, ks, hal, rfl, er⟩ (each_of_vals r)
    refine keyH_end (h₁ := hidT s'.heap fun b => if b = kS then some (.tup []) else none) (κ := dataKind s'.heap (ys.map kf)) (fun b o _ e => (of_hidT e).1) ?_ pS.1 pD.1 hne ?_ ?_ ?_ ?_
    · cases e : (hidT s'.heap fun b => if b = kS then some (.tup []) else none).get? kS with
      | none => rfl
      | some o =>
        have := (of_hidT e).2
        rw [if_pos rfl] at this
        cases this
    · have hdep : ∀ d ∈ ys.map kf, X.A.in1.in1.units + d.depth < cLine := fun d hd => by
        obtain ⟨y, hy, rfl⟩ := List.mem_map.mp hd
        have := hde y hy
        have := hr.un
        omega
      rcases hso with hso | hso
      · exact SortsAt.data er hal hso hdep
      · exact sorts_empty er hal hso (by have := hr.un; omega)
    · show ks.length = its.length
      rw [← vk.length, ← r.length, hlen]
    · rw [← r.length]; exact hz
    · intro h' tk c kb gD'
      have keep : ∀ b o, b ≠ D → b ≠ kS → s'.heap.get? b = some o → h'.get? b = some o := fun b o n1 n2 e => kb b o n1 (hidT_get e (if_neg n2))
      have J0 : L2.Inv X pins σ H' s' := J.pins_of fun q hq => J.pin q (List.mem_append_right _ (.tail _ (.tail _ hq)))
      have nD : ∀ {b : Addr} {u : HO}, H' b = some u → b ≠ D := fun e n => by rw [n, pD.2.1] at e; cases e
      have nS : ∀ {b : Addr} {u : HO}, H' b = some u → b ≠ kS := fun e n => by rw [n, pS.2.1] at e; cases e
      have vs := vals_of_each each
      have ob : ObjOk X.prog X.w (L2.upd H' D (.lst (ys.mergeSort (dataLe false kf)))) h' D (.lst (ys.mergeSort (dataLe false kf))) := ⟨by rw [List.length_mergeSort]; exact hz, _, _, vs, gD'⟩
      have hok : HOk X.prog X.w (L2.upd H' D (.lst (ys.mergeSort (dataLe false kf)))) h' := by
        intro b u e
        by_cases n : b = D
        · subst n
          rw [upd_same] at e
          cases e
          exact ob
        · rw [upd_ne n] at e
          refine (J.hok b u e).stay (fun b' o' hb' g => ?_) (fun b' e' => by rw [upd_ne (nD e')]; exact e') (fun b' xs e' => by rw [upd_ne (nD e')]; exact e')
          rcases hb' with rfl | hb'
          · exact keep _ _ n (nS e) g
          · exact keep _ _ (nD hb') (nS hb') g
      refine ⟨rfl, .ref D, _, J0.call (ch := [D, kS]) (t' := tk) (d' := s'.drawn) (h' := h') ⟨?_, ?_, ?_, ?_, ?_, ?_, ?_⟩ hok J0.bare ?_, rfl, q H' D sm pD.2.1⟩
      · intro b o g _ _ nc
        exact keep b o (fun e => nc (by rw [e]; exact .head _)) (fun e => nc (by rw [e]; exact .tail _ (.head _))) g
      · intro b o g _ _ nc
        exact ⟨o.slots, keep b o (fun e => nc (by rw [e]; exact .head _)) (fun e => nc (by rw [e]; exact .tail _ (.head _))) g⟩
      · intro b o _ e nc
        rw [upd_ne (fun e => nc (by rw [e]; exact .head _))]
        exact e
      · intro b o g nc
        exact ⟨o, keep b o (fun e => nc (by rw [e]; exact .head _)) (fun e => nc (by rw [e]; exact .tail _ (.head _))) g⟩
      · intro b xs e
        rw [upd_ne (nD e)]; exact e
      · intro b o u e
        rw [upd_ne (nD e)]; exact e
      · intro b ps e
        exact ⟨#[], by rw [upd_ne (nD e), Array.append_empty]; exact e⟩
      · intro b hb
        cases hb with
        | head => exact ⟨hD.2.2.2.1, hD.2.1, hD.2.2.2.2.1, hD.2.2.2.2.2⟩
        | tail _ hb =>
          cases hb with
          | head => exact ⟨hS.2.2.2.1, hS.2.1, hS.2.2.2.2.1, hS.2.2.2.2.2⟩
          | tail _ hb => cases hb
  · refine pins_cons (pins_cons I gS hS (fun v e => nomatch e)) gD ⟨hD.1, hD.2.1, hD.2.2.1, hD.2.2.2.1, hD.2.2.2.2.1, fun q hq => ?_⟩ (fun v e => nomatch e)
    rcases List.mem_append.mp hq with hq | hq
    · exact hD.2.2.2.2.2 q (List.mem_append_left _ hq)
    · cases hq with
      | head => exact hne
      | tail _ hq => exact hD.2.2.2.2.2 q (List.mem_append_right _ hq)
/-- what the lists and places of a sort ask -/
def rSortK (K : PySem.W.Frag) (sp : Sp) (b : Addr) : List V → List V → Hp → VK → Prop := fun vs zs H Q => ∃ (a : Addr) (ys : List V) (kf : V → PyData), vs = [.ref a] ∧ zs = [.ref b] ∧ (SqL K H a ys ∨ SqT K H a ys) ∧
  AllAlike (ys.map kf) ∧ (Sortable (ys.map kf) ∨ ∀ d ∈ ys.map kf, d = .tuple []) ∧ (∀ y ∈ ys, (kf y).depth ≤ 60) ∧ (∀ y ∈ ys, ∀ H1, Same H H1 → sp [y] H1 (fun v H2 => Same H1 H2 ∧ Dp K H2 v (kf y)) E0) ∧
  ∀ H1 p, Same H H1 → H1 p = none → Q (.ref p) (L2.upd H1 p (.lst (ys.mergeSort (dataLe false kf))))
theorem list_sort_key (a b : Addr) : Builtin.«list.sort» { pos := [Value.ref a], kw := [("key", .ref b)] } = ksk_tree a (.ref b) false := rfl
/-- the list that is sorted is there, with all items; from here on -/
theorem sortK_tree {E' : Value → Shared → Prop} {Q : VK} {ys : List V} {its : List Value} {kf : V → PyData} {D : Addr} {n0 : Nat} (F : FnR X.prog X.w X.K X.mg X.base CX0 k f sp) (hr : Room k X.A.in1.in1) (I : L2.Inv X pins σ H s) (r : Vals ys its) (hz : ys.length ≤ sizeLine)
    (hal : AllAlike (ys.map kf)) (hso : Sortable (ys.map kf) ∨ ∀ d ∈ ys.map kf, d = .tuple []) (hde : ∀ y ∈ ys, (kf y).depth ≤ 60) (hsp : ∀ y ∈ ys, ∀ H1, Same H H1 → sp [y] H1 (fun v H2 => Same H1 H2 ∧ Dp X.K H2 v (kf y)) E0)
    (q : ∀ H1 p, Same H H1 → H1 p = none → Q (.ref p) (L2.upd H1 p (.lst (ys.mergeSort (dataLe false kf)))))
    (hD : FpOk X pins H D) (gD : s.heap.get? D = some (seqObj "list" its.toArray n0)) :
    wpAny (model X.prog X.w) X.A.in1.in1 (ksk_tree D (.ref f) false) (fun fin s' => fin = .done (.ret .none) ∧ EP X pins σ Q (.ref D) s') E' s := by
  unfold ksk_tree
  have hl : its.length ≤ sizeLine := by rw [← r.length]; exact hz
  have sz : its.toArray.size ≤ sizeLine := hl
  refine wpAny_bind (listItems_at gD rfl ?_)
  refine wpAny_bind (listUpdate_at gD rfl ?_ sz (Nat.zero_le _))
  have gD1 := get?_update_seq gD (fun _ => #[])
  refine wpAny_bind (seqEpoch_at gD1 rfl ?_)
  refine wpAny_bind (wpAny_newTuple ?_ hl)
  refine wpAny_bind (wpAny_newList ?_ (Nat.zero_le _))
  refine wpAny_holding ?_
  generalize hh1 : s.heap.update D (Obj.mapSeq fun _ => #[]) = h1 at gD1 ⊢
  have keep1 : ∀ b o, b ≠ D → s.heap.get? b = some o → h1.get? b = some o := fun b o n e => by rw [← hh1, Heap.get?_update_other _ _ (fun e => n e.symm)]; exact e
  have s1 : h1.objs.size = s.heap.objs.size := by rw [← hh1]; exact Heap.size_update _ _ _
  have I1 : L2.Inv X pins σ H { heap := h1, gens := s.gens, drawn := s.drawn, toks := s.toks, os := s.os } := I.turnedL (ch := [D]) (fun b o nb e => keep1 b o (fun e => nb (by rw [e]; exact .head _)) e) fun b hb => by
    cases hb with
    | head => exact hD
    | tail _ h => cases h
  dsimp only
  generalize hh2 : h1.push { cls := Value.type "tuple", data := Data.seq its.toArray } = h2
  have keep2 : ∀ b o, h1.get? b = some o → h2.get? b = some o := fun b o e => by rw [← hh2]; exact Heap.get?_push_of_some _ e
  have s2 : h2.objs.size = h1.objs.size + 1 := by rw [← hh2]; exact Array.size_push _
  have keep3 : ∀ b o, h1.get? b = some o → (h2.push { cls := Value.type "list", data := Data.seq (#[] : Array Value) }).get? b = some o := fun b o e => Heap.get?_push_of_some _ (keep2 b o e)
  have I2 := I1.kept (h' := h2.push { cls := Value.type "list", data := Data.seq (#[] : Array Value) }) (t' := s.toks) keep3
  have hS : FpOk X pins H h2.objs.size := I1.fpOk (by show h1.objs.size ≤ _; omega) (I1.hok.fresh (by show h1.objs.size ≤ _; omega))
  have lt1 : D < h1.objs.size := Heap.lt_size gD1
  have ne : h2.objs.size ≠ D := by rw [s2]; exact Nat.ne_of_gt (Nat.lt_succ_of_lt lt1)
  exact sortK_rest F hr I2 r hz hal hso hde hsp q hD hS ne (keep3 _ _ gD1) (Heap.get?_push_size _ rfl)
/-- sorted of a list or a tuple, down to the sort of the new list -/
theorem sorted_seq {E : Value → Shared → Prop} {A : Around} {P : Program} {w : World} {Q : Value → Shared → Prop} {l : Addr} {T : String} {o : Obj} {items : Array Value} {n : Nat} {kw : List (Str × Value)} (hT : T = "list" ∨ T = "tuple") (g : s.heap.get? l = some o) (hc : o.cls = .type T) (hd : o.data = .seq items n) (hz : items.size ≤ sizeLine)
    (a1 : argsOk "sorted" { pos := [Value.ref l], kw := kw }) (a2 : ∀ x : Addr, argsOk "list.sort" { pos := [Value.ref x], kw := kw })
    (h : ∀ (h' : Heap), (∀ b o, s.heap.get? b = some o → h'.get? b = some o) → ∀ E' : Value → Shared → Prop, wpAny (model P w) A.in1.in1 (Builtin.«list.sort» { pos := [Value.ref h'.objs.size], kw := kw }) (fun f s' => f = .done (.ret .none) ∧ Q (.ref h'.objs.size) s') E'
      { heap := h'.push (seqObj "list" items 0), gens := s.gens, drawn := s.drawn, toks := s.toks, os := s.os }) :
    wpAny (model P w) A (call (.builtin "sorted") [.ref l] kw) Q E s := by
  refine wpAny_call (codeAny_call_builtin plain_sorted entry_sorted ?_)
  rw [show checkBuiltinCall "sorted" { pos := [Value.ref l], kw := kw } = pure () from a1]
  refine wpAny_pure ?_
  unfold Builtin.sorted
  show wpAny _ _ (checkCount "sorted" 1 1 1 >>= _) _ _ _
  refine wpAny_bind ?_
  rw [show checkCount "sorted" 1 1 1 = pure () from rfl]
  refine wpAny_pure ?_
  show wpAny _ _ (collect (Value.ref l) >>= _) _ _ _
  refine wpAny_bind (wpAny_collect_seq l hT g hc hd (fun h' keep => ?_) hz)
  refine wpAny_bind (wpAny_newList ?_ hz)
  refine wpAny_bind (wpAny_holding (wpAny_call (codeAny_call_builtin (by decide +kernel) entry_list_sort ?_)))
  refine slot_list_sort.check _ _ _ _ _ _ _ _ ⟨_, Heap.get?_push_size _ rfl, rfl⟩ (a2 _) ?_
  refine wpAny_mono (h h' keep E) (fun f s' q => ?_) (fun _ _ z => ?_)
  · obtain ⟨rfl, q⟩ := q
    exact wpAny_pure q
  · exact z
theorem cr_sortK (F : FnR X.prog X.w X.K X.mg X.base CX0 k f sp) (hr : Room (k + 1) X.A) : CallRK X (.builtin "sorted") ["key"] (rSortK X.K sp f) := by
  intro pins s σ H xs zs us ws Q I rx rz h
  obtain ⟨a, ys, kf, rfl, rfl, ha, hal, hso, hde, hsp, q⟩ := h
  have e1 := rx.ref1
  have e2 := rz.ref1
  subst e1 e2
  show wpAny _ _ (call (.builtin "sorted") [.ref a] [("key", .ref f)]) _ _ _
  obtain ⟨its, T, o, n, r, hT, g, hc, hd, hz⟩ : ∃ (its : List Value) (T : String) (o : Obj) (n : Nat), Vals ys its ∧ (T = "list" ∨ T = "tuple") ∧ s.heap.get? a = some o ∧ o.cls = .type T ∧ o.data = .seq its.toArray n ∧ ys.length ≤ sizeLine := by
    rcases ha with ha | ha
    · obtain ⟨its, r, pl, hz⟩ := I.list ha
      obtain ⟨o, n, g, hc, _, hd⟩ := pl
      exact ⟨its, "list", o, n, r, .inl rfl, g, hc, hd, hz⟩
    · obtain ⟨its, r, pl, hz⟩ := I.tuple ha
      obtain ⟨o, g, hc, n, hd⟩ := pl
      exact ⟨its, "tuple", o, n, r, .inr rfl, g, hc, hd, hz⟩
  have hl : its.toArray.size ≤ sizeLine := by show its.length ≤ _; rw [← r.length]; exact hz
  refine sorted_seq hT g hc hd hl ?_ ?_ (fun h' keep E' => ?_)
  · rfl
  · intro x; rfl
  rw [list_sort_key]
  have I0 := I.kept (h' := h') (t' := s.toks) keep
  have I1 := I.kept (h' := h'.push (seqObj "list" its.toArray 0)) (t' := s.toks) (fun b u e => Heap.get?_push_of_some _ (keep b u e))
  have hD : FpOk X pins H h'.objs.size := I0.fpOk (Nat.le_refl _) (I0.hok.fresh (Nat.le_refl _))
  exact sortK_tree F (room_in2 hr) I1 r hz hal hso hde hsp q hD (Heap.get?_push_size _ rfl)
end
end Ask
namespace Ask
open PySem L2 PySem.Spec PyProof.Rows
theorem line1000 {n : Nat} (h : n ≤ 1000) : n ≤ sizeLine := Nat.le_of_lt (small1000 h)
theorem boot_str : bootBuiltins ("str" : Str) = some (.type "str") := by decide +kernel
theorem boot_isi : bootBuiltins ("isinstance" : Str) = some (.builtin "isinstance") := by decide +kernel
theorem boot_tuple : bootBuiltins ("tuple" : Str) = some (.type "tuple") := by decide +kernel
theorem boot_list : bootBuiltins ("list" : Str) = some (.type "list") := by decide +kernel
theorem boot_sorted : bootBuiltins ("sorted" : Str) = some (.builtin "sorted") := by decide +kernel
theorem same_new {H : Hp} {p : Addr} (hp : H p = none) (o : HO) : Same H (L2.upd H p o) := fun b u e => by rw [upd_ne (ne_of_none e hp)]; exact e
theorem ifF {c : Bool} {A B : Prop} (h : c = false) (k : B) : if c = true then A else B := by rw [h]; exact iteF k
theorem ifT {c : Bool} {A B : Prop} (h : c = true) (k : A) : if c = true then A else B := by rw [h]; exact iteT k
/-! ### a def with a star alone, called -/
structure Dr (P : Program) (w : World) (K : PySem.W.Frag) (mg : Str → Option Value) (base : Heap) (k : Nat) (x : Str) (sp : Sp) : Prop where
  ex : ∃ f : Addr, mg x = some (.ref f) ∧ PySem.W.keepIn K (.ref f) = true ∧ FnR P w K mg base CX0 k f sp
section
variable {X : Cx}
theorem pe_dr0 {k : Nat} {x : Str} {sp : Sp} {p pos : Pos} (D : Dr X.prog X.w X.K X.mg X.base k x sp) (hr : Room k X.A) (hg : Gl X x) (hdb : (x == ("__debug__" : Str)) = false := by decide) : PE X (.Call (.Name x p) [] [] pos) (fun σ H Q => sp [] H Q E0) := by
  obtain ⟨f, hm, hk, F⟩ := D.ex
  refine ⟨fun pins s σ H Q I h => ?_⟩
  refine wpAny_Call_Name_kw (ld_glob I hg hm ?_ hdb)
  exact PySem.W.callWith_K0 I.kIn hk (wpAny_call (run_fnR F hr pass0 I .nil h))
theorem pe_dr {k : Nat} {x : Str} {sp : Sp} {e : Expr} {es : List Expr} {t : TA} {p pos : Pos} (D : Dr X.prog X.w X.K X.mg X.base k x sp) (hr : Room k X.A) (hg : Gl X x) (ha : PA X (e :: es) t) (hdb : (x == ("__debug__" : Str)) = false := by decide)
    (he : starEach (e :: es) X.env = (false, eval e X.env) :: starEach es X.env := by rfl) (hpl : (backTo pos (starEach es X.env)).any (·.1) = false := by rfl) : PE X (.Call (.Name x p) (e :: es) [] pos) (fun σ H Q => t σ H fun vs H1 => sp vs H1 Q E0) := by
  obtain ⟨f, hm, hk, F⟩ := D.ex
  refine ⟨fun pins s σ H Q I h => ?_⟩
  refine wpAny_Call_Name_kw (ld_glob I hg hm ?_ hdb)
  refine PySem.W.callWith_K (h₀ := X.base) I.ok.mod.kin hk (thn (ha.run pos pins s σ H _ I h) fun us s1 ⟨vs, H1, I1, r, q⟩ => ⟨I1.kIn, ?_⟩) he hpl
  exact wpAny_call (run_fnR F hr pass0 I1 r q)
/-! ### tuples (int, int, text) compared -/
def at3 (i j : Int) (z : Str) : List V := [.int i, .int j, .str z]
def eq3 (i j : Int) (z : Str) (i' j' : Int) (z' : Str) : Nat → Bool
  | 0 => i == i'
  | 1 => j == j'
  | _ => z == z'
/-- op at each place -/
def op3 (fi : Int → Int → Bool) (fs : Str → Str → Bool) (i j : Int) (z : Str) (i' j' : Int) (z' : Str) : Nat → Bool
  | 0 => fi i i'
  | 1 => fi j j'
  | _ => fs z z'
def cmp3 (fi : Int → Int → Bool) (fs : Str → Str → Bool) (fin : Bool) (i j : Int) (z : Str) (i' j' : Int) (z' : Str) : Bool := Ob.lexAt (eq3 i j z i' j' z') (op3 fi fs i j z i' j' z') fin 0 3
def sLt (x y : Str) : Bool := decide (x.cps.toList < y.cps.toList)
def rC3 (K : PySem.W.Frag) (fi : Int → Int → Bool) (fs : Str → Str → Bool) (fin : Bool) : R2 := fun x y H Q => ∃ (a b : Addr) (i j : Int) (z : Str) (i' j' : Int) (z' : Str), x = .ref a ∧ y = .ref b ∧ SqT K H a (at3 i j z) ∧ SqT K H b (at3 i' j' z') ∧ Q (.bl (cmp3 fi fs fin i j z i' j' z')) H
theorem vals_three {x y z : V} {us : List Value} (r : Vals [x, y, z] us) : ∃ u1 u2 u3, us = [u1, u2, u3] ∧ RelV x u1 ∧ RelV y u2 ∧ RelV z u3 := by
  match us, r with
  | [_, _, _], .cons a (.cons b (.cons c .nil)) => exact ⟨_, _, _, rfl, a, b, c⟩
theorem op_c3 {op : CmpOp} {fi : Int → Int → Bool} {fs : Str → Str → Bool} {fin : Bool} (hi : ∀ (A : Around) (s : Shared) (a b : Int) (t u : Tok), Ob.RcOp op A s (.int a t) (.int b u) (fi a b)) (hs : ∀ (A : Around) (s : Shared) (a b : Str) (t u : Tok), Ob.RcOp op A s (.str a t) (.str b u) (fs a b))
    (tu : ∀ {A : Around} {s : Shared} {l b : Addr} {items items2 : Array Value} {e r : Nat → Bool}, s.heap.IsTuple l items → s.heap.IsTuple b items2 → A.units < cLine → (∀ j (h1 : j < items.size) (h2 : j < items2.size), SeqAt.EqAt A.in1 s items[j] items2[j] (e j)) →
      (∀ j (h1 : j < items.size) (h2 : j < items2.size), e j = false → Ob.RcOp op A.in1 s items[j] items2[j] (r j)) → items.size = 3 → items2.size = 3 → Ob.RcOp op A s (.ref l) (.ref b) (Ob.lexAt e r fin 0 3))
    (hc : ∀ a b : Addr, compareOp op (.ref a) (.ref b) = richCompare op (.ref a) (.ref b)) (hu : X.A.units < cLine) : OpR X (compareOp op) (rC3 X.K fi fs fin) := by
  intro pins s σ H x y v u Q I rx ry h
  obtain ⟨a, b, i, j, z, i', j', z', rfl, rfl, ha, hb, q⟩ := h
  cases rx
  cases ry
  obtain ⟨its, r1, p1, _⟩ := I.tuple ha
  obtain ⟨its2, r2, p2, _⟩ := I.tuple hb
  obtain ⟨w1, w2, w3, rfl, a1, a2, a3⟩ := vals_three r1
  obtain ⟨w4, w5, w6, rfl, b1, b2, b3⟩ := vals_three r2
  obtain ⟨t1, rfl⟩ := a1
  obtain ⟨t2, rfl⟩ := a2
  obtain ⟨t3, rfl⟩ := a3
  obtain ⟨u1, rfl⟩ := b1
  obtain ⟨u2, rfl⟩ := b2
  obtain ⟨u3, rfl⟩ := b3
  have R := tu (A := X.A) (s := s) (e := eq3 i j z i' j' z') (r := op3 fi fs i j z i' j' z') p1 p2 hu (fun n h1 h2 => by
    match n with
    | 0 => exact SeqAt.EqAt.int_int _ _ _ _
    | 1 => exact SeqAt.EqAt.int_int _ _ _ _
    | 2 => exact SeqAt.EqAt.str_str _ _ _ _
    | n + 3 => exact absurd h1 (by simp)) (fun n h1 h2 _ => by
    match n with
    | 0 => exact hi _ _ _ _ _ _
    | 1 => exact hi _ _ _ _ _ _
    | 2 => exact hs _ _ _ _ _ _
    | n + 3 => exact absurd h1 (by simp)) rfl rfl
  rw [hc]
  exact R X.prog X.w X.xe (EP X pins σ Q) ⟨.bl _, H, I, rfl, q⟩
theorem op_lt3 (hu : X.A.units < cLine) : OpR X (compareOp .Lt) (rC3 X.K (fun a b => decide (a < b)) sLt false) := op_c3 (fun _ _ a b t u => .lt_int a b t u) (fun _ _ a b t u _ _ _ _ h => PyProof.Rows.lt_str h) (fun h1 h2 h3 h4 h5 e1 e2 => by
  have := Ob.RcOp.tuples_lt h1 h2 h3 h4 h5
  rw [e1, e2] at this
  exact this) (fun _ _ => rfl) hu
theorem op_le3 (hu : X.A.units < cLine) : OpR X (compareOp .LtE) (rC3 X.K (fun a b => decide (a ≤ b)) (fun x y => !sLt y x) true) := op_c3 (fun _ _ a b t u => .le_int a b t u) (fun _ _ a b t u _ _ _ _ h => PySem.P.le_str h) (fun h1 h2 h3 h4 h5 e1 e2 => by
  have := Ob.RcOp.tuples_le h1 h2 h3 h4 h5
  rw [e1, e2] at this
  exact this) (fun _ _ => rfl) hu
theorem op_gt3 (hu : X.A.units < cLine) : OpR X (compareOp .Gt) (rC3 X.K (fun a b => decide (b < a)) (fun x y => sLt y x) false) := op_c3 (fun _ _ a b t u => .gt_int a b t u) (fun _ _ a b t u _ _ _ _ h => PySem.P.gt_str h) (fun h1 h2 h3 h4 h5 e1 e2 => by
  have := Ob.RcOp.tuples_gt h1 h2 h3 h4 h5
  rw [e1, e2] at this
  exact this) (fun _ _ => rfl) hu
theorem op_ge3 (hu : X.A.units < cLine) : OpR X (compareOp .GtE) (rC3 X.K (fun a b => decide (b ≤ a)) (fun x y => !sLt x y) true) := op_c3 (fun _ _ a b t u => .ge_int a b t u) (fun _ _ a b t u _ _ _ _ h => PySem.P.ge_str h) (fun h1 h2 h3 h4 h5 e1 e2 => by
  have := Ob.RcOp.tuples_ge h1 h2 h3 h4 h5
  rw [e1, e2] at this
  exact this) (fun _ _ => rfl) hu
end
end Ask
namespace Ask
open PySem L2
/-! ### values, their places -/
def vOk : V → Prop
  | .non => True
  | .int _ => True
  | .str z => z.length ≤ 1000 ∧ PyData.strOk z = true
  | _ => False
def p1 : V → Int
  | .non => 0
  | .str _ => 2
  | _ => 1
def p2 : V → Int
  | .int i => i
  | _ => 0
def p3 : V → Str
  | .str z => z
  | _ => ""
def pl (v : V) : List V := at3 (p1 v) (p2 v) (p3 v)
theorem vOk.ty {K : PySem.W.Frag} {H : Hp} {v : V} (h : vOk v) : ∃ (t : String) (b : Bool), TyX K H v (.type t) ∧ kitB t "str" = some b ∧ (b = true ↔ ∃ z, v = .str z) := by
  cases v with
  | non => exact ⟨"NoneType", false, .base .non, by decide +kernel, by simp⟩
  | int i => exact ⟨"int", false, .base (.int i), by decide +kernel, by simp⟩
  | str z => exact ⟨"str", true, .base (.str z), by decide +kernel, by simp⟩
  | _ => exact h.elim
def plD (v : V) : PyData := .tuple [.int (p1 v), .int (p2 v), .str (p3 v)]
theorem pl_dp {K : PySem.W.Frag} {H : Hp} {a : Addr} {v : V} (h : SqT K H a (pl v)) : Dp K H (.ref a) (plD v) := .tup h (.cons (.int _) (.cons (.int _) (.cons (.str _) .nil)))
theorem pl_shaped {v : V} (h : vOk v) : SeqAt.shaped (plD v) = true := by
  have e : PyData.strOk (p3 v) = true := by
    cases v with
    | str z => exact h.2
    | _ => show PyData.strOk ("" : Str) = true; decide +kernel
  unfold SeqAt.shaped plD
  simp only [PyData.canLay0, PyData.canLayAll0, e, Bool.and_true, Bool.true_and]
  exact decide_eq_true (by simp only [PyData.depth, PyData.depthAll]; omega)
theorem pl_eqv {x y : V} (hx : vOk x) (hy : vOk y) : PyData.eqv (plD x) (plD y) = decide (x = y) := by
  have e : PyData.eqv (plD x) (plD y) = (p1 x == p1 y && (p2 x == p2 y && p3 x == p3 y)) := by
    unfold plD
    simp only [PyData.eqv, PyData.eqvAll, Bool.and_true]
  rw [e]
  cases x with
  | non =>
    cases y with
    | non => decide +kernel
    | int j => simp [p1]
    | str z => simp [p1]
    | _ => exact hy.elim
  | int i =>
    cases y with
    | non => simp [p1]
    | int j =>
      by_cases q : i = j
      · subst q; simp [p1, p2, p3]
      · have : ¬ (V.int i = V.int j) := fun t => q (V.int.inj t)
        simp [p1, p2, p3, q]
    | str z => simp [p1]
    | _ => exact hy.elim
  | str z =>
    cases y with
    | non => simp [p1]
    | int j => simp [p1]
    | str z' =>
      by_cases q : z = z'
      · subst q; simp [p1, p2, p3]
      · simp [p1, p2, p3, q]
    | _ => exact hy.elim
  | _ => exact hx.elim
theorem v_scal {x y : V} (hx : vOk x) (hy : vOk y) : scal x y = true := by
  cases x <;> cases y <;> first | rfl | exact hx.elim | exact hy.elim
theorem all_nil {p : V → Prop} : ∀ x ∈ ([] : List V), p x := fun _ h => nomatch h
theorem all_cons {p : V → Prop} {a : V} {l : List V} (h : p a) (t : ∀ x ∈ l, p x) : ∀ x ∈ a :: l, p x := fun x hx => by
  cases hx with
  | head => exact h
  | tail _ hx => exact t x hx
section
variable {P : Program} {w : World} {K : PySem.W.Frag} {mg : Str → Option Value} {base : Heap}
def spPlace : Sp := fun vs H Q _ => ∃ v : V, vs = [v] ∧ vOk v ∧ ∀ p, H p = none → Q (.ref p) (L2.upd H p (.tup (pl v)))
abbrev n_value_place : List Str := ["value"]
theorem sc_value_place : FnScope n_value_place ["value"] (defScope sPlace) := ⟨rfl, rfl, rfl, by decide +kernel, rfl, by decide +kernel, by decide +kernel⟩
theorem ok_value_place {f : Addr} {fd : FuncData} (F : Fun K "value_place" "value_place" sPlace f fd) (B : Blt mg) : FnOk P w K mg base CX0 1 f fd ["value"] spPlace := by
  refine F.ok sc_value_place (fun vs H Q E h => ?_) (fun cdv A outer s H vs Q E hr h => ?_)
  · obtain ⟨v, rfl, _⟩ := h
    rfl
  · obtain ⟨v, rfl, hv, k⟩ := h
    refine ⟨_, pss_cons (ps_if (pt_cmpR op_isN (pv 0) pe_non (nomark _)) (pss_one (ps_ret (pe_tup (pa_cons pe_int (pa_cons pe_int (pa_cons pe_str pa_nil)))))) pss_nil) (pss_cons (ps_if (pt_val (pe_callB call_isi (by rfl) B.isi boot_isi (pa_cons (pv 0) (pa_cons (pe_bltn (v := .ty "str") (by rfl) B.str boot_str rfl) pa_nil)))) (pss_one (ps_ret (pe_tup (pa_cons pe_int (pa_cons pe_int (pa_cons (pv 0) pa_nil)))))) pss_nil) (pss_one (ps_ret (pe_tup (pa_cons pe_int (pa_cons (pv 0) (pa_cons pe_str pa_nil))))))), ?_⟩
    refine ⟨_, rfl, rfl, _, rfl, ?_⟩
    cases v with
    | non => exact iteT ⟨by show 3 ≤ sizeLine; decide, fun p hp => k p hp⟩
    | int i => exact iteF ⟨_, rfl, .int i, .ty "str", .type "int", .type "str", false, rfl, .ty _, .base (.int i), kit_ty (by decide +kernel), _, rfl, iteF ⟨_, rfl, by show 3 ≤ sizeLine; decide, fun p hp => k p hp⟩⟩
    | str z => exact iteF ⟨_, rfl, .str z, .ty "str", .type "str", .type "str", true, rfl, .ty _, .base (.str z), kit_ty (by decide +kernel), _, rfl, iteT ⟨_, rfl, by show 3 ≤ sizeLine; decide, fun p hp => k p hp⟩⟩
    | _ => exact hv.elim
abbrev n_law_order : List Str := ["_law_value_here"]
theorem sc_law_order : FnScope n_law_order ["_law_value_here"] (defScope sOrder) := ⟨rfl, rfl, rfl, by decide +kernel, rfl, by decide +kernel, by decide +kernel⟩
theorem ok_law_order {f : Addr} {fd : FuncData} (F : Fun K "_law_order" "_law_order" sOrder f fd) (B : Blt mg) : FnOk P w K mg base CX0 1 f fd ["_law_value_here"] spPlace := by
  refine F.ok sc_law_order (fun vs H Q E h => ?_) (fun cdv A outer s H vs Q E hr h => ?_)
  · obtain ⟨v, rfl, _⟩ := h
    rfl
  · obtain ⟨v, rfl, hv, k⟩ := h
    refine ⟨_, pss_cons (ps_if (pt_cmpR op_isN (pv 0) pe_non (nomark _)) (pss_one (ps_ret (pe_tup (pa_cons pe_int (pa_cons pe_int (pa_cons pe_str pa_nil)))))) pss_nil) (pss_one (ps_ret (pe_ifExp (pt_val (pe_callB call_isi (by rfl) B.isi boot_isi (pa_cons (pv 0) (pa_cons (pe_bltn (v := .ty "str") (by rfl) B.str boot_str rfl) pa_nil)))) (pe_tup (pa_cons pe_int (pa_cons pe_int (pa_cons (pv 0) pa_nil)))) (pe_tup (pa_cons pe_int (pa_cons (pe_callTy call_int1 (by rfl) B.int boot_int (pa_cons (pv 0) pa_nil)) (pa_cons pe_str pa_nil))))))), ?_⟩
    refine ⟨_, rfl, rfl, _, rfl, ?_⟩
    cases v with
    | non => exact iteT ⟨by show 3 ≤ sizeLine; decide, fun p hp => k p hp⟩
    | int i => exact iteF ⟨_, rfl, .int i, .ty "str", .type "int", .type "str", false, rfl, .ty _, .base (.int i), kit_ty (by decide +kernel), _, rfl, iteF ⟨_, rfl, .inl ⟨_, rfl, by show 3 ≤ sizeLine; decide, fun p hp => k p hp⟩⟩⟩
    | str z => exact iteF ⟨_, rfl, .str z, .ty "str", .type "str", .type "str", true, rfl, .ty _, .base (.str z), kit_ty (by decide +kernel), _, rfl, iteT ⟨_, rfl, by show 3 ≤ sizeLine; decide, fun p hp => k p hp⟩⟩
    | _ => exact hv.elim
/-! ### _law_value -/
def spVal : Sp := fun vs H Q _ => ∃ (d : Addr) (z : Str) (p : Int), vs = [.ref d, .str z] ∧ Tape H d p ∧ p < 990000000 ∧ ∀ (x : V) (p' : Int) (H' : Hp), vOk x → Tape H' d p' → p' ≤ p + 2 → Off H H' d → Q x H'
abbrev n_law_value : List Str := ["_law_tape", "_law_kind"]
theorem sc_law_value : FnScope n_law_value ["_law_tape", "_law_kind"] (defScope sVal) := ⟨rfl, rfl, rfl, by decide +kernel, rfl, by decide +kernel, by decide +kernel⟩
theorem ok_law_value {f : Addr} {fd : FuncData} (F : Fun K "_law_value" "_law_value" sVal f fd) (B : Blt mg) (DD : Dn P w K mg base 1 "_law_draw" ["_law_tape", "_law_many"] spDraw) (DP : Dn P w K mg base 2 "_law_pick" ["_law_tape", "_law_items"] (spPick K)) : FnOk P w K mg base CX0 3 f fd ["_law_tape", "_law_kind"] spVal := by
  refine F.ok sc_law_value (fun vs H Q E h => ?_) (fun cdv A outer s H vs Q E hr h => ?_)
  · obtain ⟨d, z, p, rfl, _⟩ := h
    rfl
  · obtain ⟨d, z, p, rfl, T, hp, k⟩ := h
    refine ⟨_, pss_cons (ps_if (pt_cmpR op_eq (pe_dn DD (hr.mono (by decide)) (by rfl) (pa_cons (pv 0) (pa_cons pe_int pa_nil))) pe_int (nomark _)) (pss_one (ps_ret pe_non)) pss_nil)
      (pss_cons (ps_if (pt_cmpR op_eq (pv 1) pe_str (nomark _)) (pss_one (ps_ret (pe_dn DP hr (by rfl) (pa_cons (pv 0) (pa_cons (pe_lst (pa_cons pe_str (pa_cons pe_str (pa_cons pe_str (pa_cons pe_str (pa_cons pe_str (pa_cons pe_str (pa_cons pe_str pa_nil)))))))) pa_nil))))) pss_nil)
      (pss_one (ps_ret (pe_dn DP hr (by rfl) (pa_cons (pv 0) (pa_cons (pe_lst (pa_cons pe_int (pa_cons pe_int (pa_cons pe_int (pa_cons pe_int (pa_cons pe_int (pa_cons pe_int (pa_cons (pe_un un_neg pe_int) (pa_cons (pe_op op_pow pe_int pe_int) pa_nil))))))))) pa_nil)))))), ?_⟩
    refine ⟨_, rfl, d, 4, p, rfl, by decide, by decide, T, by omega, fun n p1 H1 n0 n1 T1 h1 o1 => ⟨rfl, _, rfl, ?_⟩⟩
    refine ite2 (fun _ => k .non p1 H1 trivial T1 (by omega) o1) (fun _ => ⟨_, rfl, rfl, _, rfl, ?_⟩)
    refine ite2 (fun _ => ?_) (fun _ => ?_)
    · refine ⟨_, rfl, by show 7 ≤ sizeLine; decide, fun l hl => ?_⟩
      refine ⟨d, .ref l, _, p1, rfl, T1.new hl _, by omega, .inl ⟨l, rfl, SqL.of upd_same⟩, ?_, ?_, fun x p2 H2 hx T2 h2 o2 => k x p2 H2 ?_ T2 (by omega) ((o1.new hl _).trans o2)⟩
      · intro z; cases z
      · show 7 < 1073741824; decide
      · have s1 : ∀ z : Str, z.length ≤ 1000 ∧ PyData.strOk z = true → vOk (.str z) := fun _ h => h
        refine all_cons (s1 _ ?_) (all_cons (s1 _ ?_) (all_cons (s1 _ ?_) (all_cons (s1 _ ?_) (all_cons (s1 _ ?_) (all_cons (s1 _ ?_) (all_cons (s1 _ ?_) all_nil)))))) x hx <;> exact ⟨by decide +kernel, by decide +kernel⟩
    · refine ⟨_, rfl, 1, rfl, 10, 20, rfl, rfl, ⟨by decide, by decide, by decide⟩, by show 8 ≤ sizeLine; decide, fun l hl => ?_⟩
      refine ⟨d, .ref l, _, p1, rfl, T1.new hl _, by omega, .inl ⟨l, rfl, SqL.of upd_same⟩, ?_, ?_, fun x p2 H2 hx T2 h2 o2 => k x p2 H2 ?_ T2 (by omega) ((o1.new hl _).trans o2)⟩
      · intro z; cases z
      · show 8 < 1073741824; decide
      · have i1 : ∀ i : Int, vOk (.int i) := fun _ => trivial
        exact all_cons (i1 _) (all_cons (i1 _) (all_cons (i1 _) (all_cons (i1 _) (all_cons (i1 _) (all_cons (i1 _) (all_cons (i1 _) (all_cons (i1 _) all_nil))))))) x hx
end
end Ask
namespace Ask
open PySem L2
open PySem.W (EachIs AllAlike Sortable dataLe alike alikeAll)
/-! ### places of rows -/
def TAt (H : Hp) (v x : V) : Prop := ∃ p, v = .ref p ∧ H p = some (.tup (pl x))
def Tups (H H' : Hp) : Prop := ∀ p u, H p = some (.tup u) → H' p = some (.tup u)
theorem Tups.of_same {H H' : Hp} (s : Same H H') : Tups H H' := fun p u e => s p _ e
theorem Tups.trans {H H1 H2 : Hp} (a : Tups H H1) (b : Tups H1 H2) : Tups H H2 := fun p u e => b p u (a p u e)
theorem Tups.lst {H : Hp} {D : Addr} {ks : List V} (h : H D = some (.lst ks)) (u : HO) : Tups H (L2.upd H D u) := fun p v e => by
  rw [upd_ne (fun q => by rw [q, h] at e; cases e)]
  exact e
theorem tats {H H' : Hp} (t : Tups H H') {ks xs : List V} (h : EachIs (TAt H) ks xs) : EachIs (TAt H') ks xs := by
  induction h with
  | nil => exact .nil
  | cons a _ ih =>
    obtain ⟨p, e, g⟩ := a
    exact .cons ⟨p, e, t _ _ g⟩ ih
theorem tats_dp {K : PySem.W.Frag} {H : Hp} {ks xs : List V} (h : EachIs (TAt H) ks xs) : DpAll K H ks (xs.map plD) := by
  induction h with
  | nil => exact .nil
  | cons a _ ih =>
    obtain ⟨p, rfl, g⟩ := a
    exact .cons (pl_dp (SqT.of g)) ih
def valsOf (H : Hp) : V → List V
  | .ref t => match H t with
    | some (.tup xs) => xs
    | _ => []
  | _ => []
structure RowAt (H : Hp) (n : Nat) (v : V) : Prop where
  ex : ∃ t xs, v = .ref t ∧ H t = some (.tup xs) ∧ xs.length = n ∧ ∀ x ∈ xs, vOk x
theorem valsOf_at {H : Hp} {t : Addr} {xs : List V} (h : H t = some (.tup xs)) : valsOf H (.ref t) = xs := by
  unfold valsOf
  simp only [h]
theorem RowAt.tups {H H' : Hp} {n : Nat} {v : V} (t : Tups H H') (r : RowAt H n v) : RowAt H' n v ∧ valsOf H' v = valsOf H v := by
  obtain ⟨a, xs, rfl, h, hn, hv⟩ := r.ex
  exact ⟨⟨a, xs, rfl, t _ _ h, hn, hv⟩, by rw [valsOf_at h, valsOf_at (t _ _ h)]⟩
def keyT (H : Hp) (v : V) : PyData := .tuple ((valsOf H v).map plD)
def keyL (H : Hp) (v : V) : PyData := .list ((valsOf H v).map plD)
theorem plD_alike (x y : V) : alike (plD x) (plD y) = true := by
  unfold plD
  rw [alike.eq_6, alikeAll.eq_1, alikeAll.eq_1, alikeAll.eq_1, alikeAll.eq_2, alike.eq_3, alike.eq_3, alike.eq_4]
  rfl
theorem pls_alike : ∀ xs ys : List V, alikeAll (xs.map plD) (ys.map plD) = true
  | [], ys => alikeAll.eq_2 _
  | x :: xs, [] => by
    cases h : (x :: xs).map plD with
    | nil => rfl
    | cons a r => rfl
  | x :: xs, y :: ys => by
    rw [List.map_cons, List.map_cons, alikeAll.eq_1, plD_alike, pls_alike xs ys]
    rfl
theorem pls_depth : ∀ xs : List V, PyData.depthAll (xs.map plD) ≤ 1
  | [] => by simp [PyData.depthAll]
  | x :: xs => by
    have := pls_depth xs
    simp only [List.map_cons, PyData.depthAll, plD, PyData.depth]
    omega
section
variable {H : Hp} {n : Nat} {ys : List V}
theorem keysT_alike : AllAlike (ys.map (keyT H)) := fun d hd d' hd' => by
  obtain ⟨y, _, rfl⟩ := List.mem_map.mp hd
  obtain ⟨y', _, rfl⟩ := List.mem_map.mp hd'
  show alike (.tuple _) (.tuple _) = true
  rw [alike.eq_6]
  exact pls_alike _ _
theorem keysL_alike : AllAlike (ys.map (keyL H)) := fun d hd d' hd' => by
  obtain ⟨y, _, rfl⟩ := List.mem_map.mp hd
  obtain ⟨y', _, rfl⟩ := List.mem_map.mp hd'
  show alike (.list _) (.list _) = true
  rw [alike.eq_5]
  exact pls_alike _ _
theorem keysT_sort (h : ∀ y ∈ ys, RowAt H n y) : Sortable (ys.map (keyT H)) ∨ ∀ d ∈ ys.map (keyT H), d = .tuple [] := by
  cases n with
  | zero =>
    refine .inr fun d hd => ?_
    obtain ⟨y, hy, rfl⟩ := List.mem_map.mp hd
    obtain ⟨t, xs, rfl, ht, hl, _⟩ := (h y hy).ex
    unfold keyT
    rw [valsOf_at ht, List.length_eq_zero_iff.mp hl]
    rfl
  | succ n =>
    refine .inl (.inl fun d hd => ?_)
    obtain ⟨y, hy, rfl⟩ := List.mem_map.mp hd
    obtain ⟨t, xs, rfl, ht, hl, _⟩ := (h y hy).ex
    unfold keyT
    rw [valsOf_at ht]
    cases xs with
    | nil => cases hl
    | cons x r => exact ⟨_, _, rfl⟩
theorem keysL_sort : Sortable (ys.map (keyL H)) := .inr fun d hd => by
  obtain ⟨y, hy, rfl⟩ := List.mem_map.mp hd
  exact ⟨fun e => (nomatch e), fun xs e => (nomatch e)⟩
theorem keyT_depth (y : V) : (keyT H y).depth ≤ 60 := by
  have := pls_depth (valsOf H y)
  simp only [keyT, PyData.depth]
  omega
theorem keyL_depth (y : V) : (keyL H y).depth ≤ 60 := by
  have := pls_depth (valsOf H y)
  simp only [keyL, PyData.depth]
  omega
theorem le_same : dataLe false (keyL H) = dataLe false (keyT H) := by
  rw [PySem.W.dataLe_eq, PySem.W.dataLe_eq]
  funext a b
  show (!PySem.W.dataLt (keyL H b) (keyL H a)) = (!PySem.W.dataLt (keyT H b) (keyT H a))
  unfold keyL keyT
  rw [PySem.W.dataLt_list, PySem.W.dataLt_tuple]
end
section
variable {P : Program} {w : World} {K : PySem.W.Frag} {mg : Str → Option Value} {base : Heap}
def spKey (g : List V → PyData) : Sp := fun vs H Q _ => ∃ (t : Addr) (xs : List V), vs = [.ref t] ∧ H t = some (.tup xs) ∧ (∀ x ∈ xs, vOk x) ∧ xs.length ≤ 100 ∧ ∀ p H', Same H H' → Dp K H' (.ref p) (g xs) → Q (.ref p) H'
theorem fnR_of {k : Nat} {f : Addr} {fd : FuncData} {ps : List Str} {sp : Sp} (hb : Binds K fd ps []) (F : FnOk P w K mg base CX0 k f fd ps sp) : FnR P w K mg base CX0 k f sp := fun A outer s H us vs Q E hr e rv h => by
  refine F.run A outer s H ⟨us, []⟩ us vs Q E hr e ?_ rv h
  have kin : K.In s.heap := fun b o hb => (e.bs b o (e.mod.kin b o hb)).1
  have := hb s us kin (by rw [List.append_nil, ← rv.length]; exact F.len vs H Q E h)
  rwa [List.append_nil] at this
theorem same_fresh {H0 H H1 : Hp} {D : Addr} (a : Same H0 H) (hD : H0 D = none) (s : Same H H1) (u : HO) : Same H0 (L2.upd H1 D u) := fun b v e => by
  rw [upd_ne (ne_of_none e hD)]
  exact s b v (a b v e)
theorem each_len {α β : Type} {R : α → β → Prop} {as : List α} {bs : List β} (h : EachIs R as bs) : as.length = bs.length := by
  induction h with
  | nil => rfl
  | cons _ _ ih => rw [List.length_cons, List.length_cons, ih]
/-! ### row_place, _law_row_order -/
abbrev n_row_place : List Str := ["row", "value"]
theorem sc_row_place : FnScope n_row_place ["row"] (defScope sRowPl) := ⟨rfl, rfl, rfl, by decide +kernel, rfl, by decide +kernel, by decide +kernel⟩
theorem ok_row_place {f : Addr} {fd : FuncData} (F : Fun K "row_place" "row_place" sRowPl f fd) (B : Blt mg) (DPl : Dn P w K mg base 1 "value_place" ["value"] spPlace) : FnOk P w K mg base CX0 2 f fd ["row"] (spKey (K := K) fun xs => .tuple (xs.map plD)) := by
  refine F.ok sc_row_place (fun vs H Q E h => ?_) (fun cdv A outer s H vs Q E hr h => ?_)
  · obtain ⟨t, xs, rfl, _⟩ := h
    rfl
  · obtain ⟨t, xs, rfl, ht, hxs, hn, k⟩ := h
    refine ⟨_, pss_one (ps_ret (pe_callTy call_tuple_of (by rfl) B.tuple boot_tuple (pa_cons (pe_lc (own := [("value", 1)]) (g := gName 1) (tt := tYes) rfl sc_row_place.nd (pi_tup (pv 0)) (blkOk_by (N := n_row_place) (sc := defScope sRowPl) (by decide +kernel)) (fun _ _ _ _ _ => pg_name (i := 1) sc_row_place.nd rfl (Or.inl rfl)) (fun _ _ _ _ _ => pts_nil) (fun _ _ _ _ _ => (pe_dn DPl hr (by rfl) (pa_cons (pv 1) pa_nil)))) pa_nil))), ?_⟩
    refine ⟨_, rfl, t, rfl, ⟨_, SqT.of ht⟩, fun D hD => ?_⟩
    refine lc_tup (xs := xs) (fun i H2 => Same H H2 ∧ ∃ ks, H2 D = some (.lst ks) ∧ EachIs (TAt H2) ks (xs.take i)) ⟨same_new hD _, [], upd_same, .nil⟩ (fun i H2 _ q => SqT.of (q.1 _ _ ht)) ?_ ?_
    · rintro i x H2 hx ⟨s2, ks, hD2, hk⟩
      refine ⟨rfl, ?_⟩
      unfold tYes
      refine iteT ?_
      have hv := hxs x (List.mem_of_getElem? hx)
      refine ⟨_, rfl, x, rfl, hv, fun p hp => ⟨ks, ?_, ?_, ?_, ks ++ [.ref p], upd_same, ?_⟩⟩
      · rw [upd_ne (ne_of_none hD2 hp)]; exact hD2
      · have l1 := each_len hk
        rw [List.length_take] at l1
        exact small1000 (by omega)
      · exact same_fresh (Same.refl H) hD (s2.trans (same_new hp _)) _
      · rw [List.take_add_one, hx]
        have nD : p ≠ D := fun e => by rw [e, hD2] at hp; cases hp
        refine PySem.W.each_snoc (show TAt _ _ _ from ⟨p, rfl, by rw [upd_ne nD]; exact upd_same⟩) (tats ?_ hk)
        exact (Tups.of_same (same_new hp _)).trans (Tups.lst (ks := ks) (by rw [upd_ne (ne_of_none hD2 hp)]; exact hD2) _)
    · rintro H2 ⟨s2, ks, hD2, hk⟩
      rw [List.take_length] at hk
      refine ⟨D, ks, rfl, .inl ⟨SqL.of hD2, fun l hl => k l _ (s2.trans (same_new hl _)) (.tup (SqT.of upd_same) (tats_dp (tats (Tups.of_same (same_new hl _)) hk)))⟩⟩
abbrev n_law_row_order : List Str := ["_law_row", "_law_value_here"]
theorem sc_law_row_order : FnScope n_law_row_order ["_law_row"] (defScope sRowOrd) := ⟨rfl, rfl, rfl, by decide +kernel, rfl, by decide +kernel, by decide +kernel⟩
theorem ok_law_row_order {f : Addr} {fd : FuncData} (F : Fun K "_law_row_order" "_law_row_order" sRowOrd f fd) (B : Blt mg) (DO : Dn P w K mg base 1 "_law_order" ["_law_value_here"] spPlace) : FnOk P w K mg base CX0 2 f fd ["_law_row"] (spKey (K := K) fun xs => .list (xs.map plD)) := by
  refine F.ok sc_law_row_order (fun vs H Q E h => ?_) (fun cdv A outer s H vs Q E hr h => ?_)
  · obtain ⟨t, xs, rfl, _⟩ := h
    rfl
  · obtain ⟨t, xs, rfl, ht, hxs, hn, k⟩ := h
    refine ⟨_, pss_one (ps_ret (pe_lc (own := [("_law_value_here", 1)]) (g := gName 1) (tt := tYes) rfl sc_law_row_order.nd (pi_tup (pv 0)) (blkOk_by (N := n_law_row_order) (sc := defScope sRowOrd) (by decide +kernel)) (fun _ _ _ _ _ => pg_name (i := 1) sc_law_row_order.nd rfl (Or.inl rfl)) (fun _ _ _ _ _ => pts_nil) (fun _ _ _ _ _ => (pe_dn DO hr (by rfl) (pa_cons (pv 1) pa_nil))))), ?_⟩
    refine ⟨_, rfl, t, rfl, ⟨_, SqT.of ht⟩, fun D hD => ?_⟩
    refine lc_tup (xs := xs) (fun i H2 => Same H H2 ∧ ∃ ks, H2 D = some (.lst ks) ∧ EachIs (TAt H2) ks (xs.take i)) ⟨same_new hD _, [], upd_same, .nil⟩ (fun i H2 _ q => SqT.of (q.1 _ _ ht)) ?_ ?_
    · rintro i x H2 hx ⟨s2, ks, hD2, hk⟩
      refine ⟨rfl, ?_⟩
      unfold tYes
      refine iteT ?_
      have hv := hxs x (List.mem_of_getElem? hx)
      refine ⟨_, rfl, x, rfl, hv, fun p hp => ⟨ks, ?_, ?_, ?_, ks ++ [.ref p], upd_same, ?_⟩⟩
      · rw [upd_ne (ne_of_none hD2 hp)]; exact hD2
      · have l1 := each_len hk
        rw [List.length_take] at l1
        exact small1000 (by omega)
      · exact same_fresh (Same.refl H) hD (s2.trans (same_new hp _)) _
      · rw [List.take_add_one, hx]
        have nD : p ≠ D := fun e => by rw [e, hD2] at hp; cases hp
        refine PySem.W.each_snoc (show TAt _ _ _ from ⟨p, rfl, by rw [upd_ne nD]; exact upd_same⟩) (tats ?_ hk)
        exact (Tups.of_same (same_new hp _)).trans (Tups.lst (ks := ks) (by rw [upd_ne (ne_of_none hD2 hp)]; exact hD2) _)
    · rintro H2 ⟨s2, ks, hD2, hk⟩
      rw [List.take_length] at hk
      exact k D _ s2 (.lst (SqL.of hD2) (tats_dp hk))
/-! ### in_order, _law_bag -/
def spSort (K : PySem.W.Frag) : Sp := fun vs H Q _ => ∃ (a : Addr) (ys : List V) (n : Nat), vs = [.ref a] ∧ (SqL K H a ys ∨ SqT K H a ys) ∧ (∀ y ∈ ys, RowAt H n y) ∧ n ≤ 100 ∧ ∀ H1 p, Same H H1 → H1 p = none → Q (.ref p) (L2.upd H1 p (.lst (ys.mergeSort (dataLe false (keyT H)))))
abbrev n_in_order : List Str := ["rows"]
theorem sc_in_order : FnScope n_in_order ["rows"] (defScope sInOrd) := ⟨rfl, rfl, rfl, by decide +kernel, rfl, by decide +kernel, by decide +kernel⟩
theorem ok_in_order {f : Addr} {fd : FuncData} (F : Fun K "in_order" "in_order" sInOrd f fd) (B : Blt mg) (DK : Dn P w K mg base 2 "row_place" ["row"] (spKey (K := K) fun xs => .tuple (xs.map plD))) : FnOk P w K mg base CX0 4 f fd ["rows"] (spSort K) := by
  refine F.ok sc_in_order (fun vs H Q E h => ?_) (fun cdv A outer s H vs Q E hr h => ?_)
  · obtain ⟨a, ys, n, rfl, _⟩ := h
    rfl
  · obtain ⟨a, ys, n, rfl, ha, hy, hn, q⟩ := h
    obtain ⟨fk, fdk, hmk, hkk, hbk, Fk⟩ := DK.ex
    refine ⟨_, pss_one (ps_ret (pe_callBK (cr_sortK (fnR_of hbk Fk) hr) (by rfl) B.sorted boot_sorted (pa_cons (pv 0) pa_nil) (pk_cons (pe_glob (v := .ref fk) (by rfl) hmk rfl) pk_nil))), ?_⟩
    refine ⟨_, rfl, a, ys, keyT H, rfl, rfl, ha, keysT_alike, (keysT_sort hy), fun y _ => keyT_depth y, fun y hyy H1 s1 => ?_, fun H1 p s1 hp => q H1 p s1 hp⟩
    obtain ⟨t, xs, rfl, ht, hl, hv⟩ := (hy y hyy).ex
    refine ⟨t, xs, rfl, s1 _ _ ht, hv, by omega, fun p H' s2 dp => ⟨s2, ?_⟩⟩
    unfold keyT
    rw [valsOf_at ht]
    exact dp
abbrev n_law_bag : List Str := ["_law_rows"]
theorem sc_law_bag : FnScope n_law_bag ["_law_rows"] (defScope sBag) := ⟨rfl, rfl, rfl, by decide +kernel, rfl, by decide +kernel, by decide +kernel⟩
theorem ok_law_bag {f : Addr} {fd : FuncData} (F : Fun K "_law_bag" "_law_bag" sBag f fd) (B : Blt mg) (DK : Dn P w K mg base 2 "_law_row_order" ["_law_row"] (spKey (K := K) fun xs => .list (xs.map plD))) : FnOk P w K mg base CX0 4 f fd ["_law_rows"] (spSort K) := by
  refine F.ok sc_law_bag (fun vs H Q E h => ?_) (fun cdv A outer s H vs Q E hr h => ?_)
  · obtain ⟨a, ys, n, rfl, _⟩ := h
    rfl
  · obtain ⟨a, ys, n, rfl, ha, hy, hn, q⟩ := h
    obtain ⟨fk, fdk, hmk, hkk, hbk, Fk⟩ := DK.ex
    refine ⟨_, pss_one (ps_ret (pe_callBK (cr_sortK (fnR_of hbk Fk) hr) (by rfl) B.sorted boot_sorted (pa_cons (pv 0) pa_nil) (pk_cons (pe_glob (v := .ref fk) (by rfl) hmk rfl) pk_nil))), ?_⟩
    refine ⟨_, rfl, a, ys, keyL H, rfl, rfl, ha, keysL_alike, (.inl keysL_sort), fun y _ => keyL_depth y, fun y hyy H1 s1 => ?_, fun H1 p s1 hp => (by rw [le_same]; exact q H1 p s1 hp)⟩
    obtain ⟨t, xs, rfl, ht, hl, hv⟩ := (hy y hyy).ex
    refine ⟨t, xs, rfl, s1 _ _ ht, hv, by omega, fun p H' s2 dp => ⟨s2, ?_⟩⟩
    unfold keyL
    rw [valsOf_at ht]
    exact dp
end
end Ask
namespace Ask
open PySem L2
open PySem.W (EachIs AllAlike Sortable dataLe alike alikeAll)
/-! ### rows as data -/
def vD : V → PyData
  | .int i => .int i
  | .str z => .str z
  | _ => .none
def rowD (H : Hp) (v : V) : PyData := .tuple ((valsOf H v).map vD)
theorem v_dp {K : PySem.W.Frag} {H : Hp} {v : V} (h : vOk v) : Dp K H v (vD v) := by
  cases v with
  | non => exact .non
  | int i => exact .int i
  | str z => exact .str z
  | _ => exact h.elim
theorem vs_dp {K : PySem.W.Frag} {H : Hp} : ∀ {xs : List V}, (∀ x ∈ xs, vOk x) → DpAll K H xs (xs.map vD)
  | [], _ => .nil
  | x :: xs, h => .cons (v_dp (h x (.head _))) (vs_dp fun y hy => h y (.tail _ hy))
theorem row_dp {K : PySem.W.Frag} {H : Hp} {n : Nat} {v : V} (r : RowAt H n v) : Dp K H v (rowD H v) := by
  obtain ⟨t, xs, rfl, h, _, hv⟩ := r.ex
  unfold rowD
  rw [valsOf_at h]
  exact .tup (SqT.of h) (vs_dp hv)
theorem rows_dp {K : PySem.W.Frag} {H : Hp} {n : Nat} : ∀ {ys : List V}, (∀ y ∈ ys, RowAt H n y) → DpAll K H ys (ys.map (rowD H))
  | [], _ => .nil
  | y :: ys, h => .cons (row_dp (h y (.head _))) (rows_dp fun z hz => h z (.tail _ hz))
theorem v_lay {v : V} (h : vOk v) : (vD v).canLay0 = true := by
  cases v with
  | non => simp [vD, PyData.canLay0]
  | int i => simp [vD, PyData.canLay0]
  | str z => simp [vD, PyData.canLay0, h.2]
  | _ => exact h.elim
theorem vs_lay : ∀ {xs : List V}, (∀ x ∈ xs, vOk x) → PyData.canLayAll0 (xs.map vD) = true
  | [], _ => by simp [PyData.canLayAll0]
  | x :: xs, h => by simp [PyData.canLayAll0, v_lay (h x (.head _)), vs_lay fun y hy => h y (.tail _ hy)]
theorem vs_depth : ∀ xs : List V, PyData.depthAll (xs.map vD) ≤ 1
  | [] => by simp [PyData.depthAll]
  | x :: xs => by
    have := vs_depth xs
    have e : (vD x).depth ≤ 1 := by cases x <;> simp [vD, PyData.depth]
    simp only [List.map_cons, PyData.depthAll]
    omega
theorem rows_lay {H : Hp} {n : Nat} : ∀ {ys : List V}, (∀ y ∈ ys, RowAt H n y) → PyData.canLayAll0 (ys.map (rowD H)) = true
  | [], _ => by simp [PyData.canLayAll0]
  | y :: ys, h => by
    obtain ⟨t, xs, rfl, ht, _, hv⟩ := (h y (.head _)).ex
    have e : (rowD H (.ref t)).canLay0 = true := by
      unfold rowD
      rw [valsOf_at ht]
      simp [PyData.canLay0, vs_lay hv]
    simp [PyData.canLayAll0, e, rows_lay fun z hz => h z (.tail _ hz)]
theorem rows_depth {H : Hp} : ∀ ys : List V, PyData.depthAll (ys.map (rowD H)) ≤ 3
  | [] => by simp [PyData.depthAll]
  | y :: ys => by
    have := rows_depth (H := H) ys
    have e : (rowD H y).depth ≤ 3 := by
      have := vs_depth (valsOf H y)
      simp only [rowD, PyData.depth]
      omega
    simp only [List.map_cons, PyData.depthAll]
    omega
theorem rows_shaped {H : Hp} {n : Nat} {ys : List V} (h : ∀ y ∈ ys, RowAt H n y) : SeqAt.shaped (.list (ys.map (rowD H))) = true := by
  unfold SeqAt.shaped
  have := rows_depth (H := H) ys
  simp only [PyData.canLay0, rows_lay h, Bool.true_and]
  exact decide_eq_true (by simp only [PyData.depth]; omega)
theorem nil_shaped : SeqAt.shaped (.list []) = true := by decide +kernel
theorem eqv_nil (ds : List PyData) : PyData.eqv (.list ds) (.list []) = ds.isEmpty := by
  simp only [PyData.eqv]
  cases ds <;> simp [PyData.eqvAll]
theorem v_eqv {v : V} (h : vOk v) : PyData.eqv (vD v) (vD v) = true := by
  cases v with
  | non => simp [vD, PyData.eqv]
  | int i => simp [vD, PyData.eqv]
  | str z => simp [vD, PyData.eqv]
  | _ => exact h.elim
theorem vs_eqv : ∀ {xs : List V}, (∀ x ∈ xs, vOk x) → PyData.eqvAll (xs.map vD) (xs.map vD) = true
  | [], _ => by simp [PyData.eqvAll]
  | x :: xs, h => by simp [PyData.eqvAll, v_eqv (h x (.head _)), vs_eqv fun y hy => h y (.tail _ hy)]
theorem rows_eqv {H : Hp} {n : Nat} : ∀ {ys : List V}, (∀ y ∈ ys, RowAt H n y) → PyData.eqvAll (ys.map (rowD H)) (ys.map (rowD H)) = true
  | [], _ => by simp [PyData.eqvAll]
  | y :: ys, h => by
    obtain ⟨t, xs, rfl, ht, _, hv⟩ := (h y (.head _)).ex
    have e : PyData.eqv (rowD H (.ref t)) (rowD H (.ref t)) = true := by
      unfold rowD
      rw [valsOf_at ht]
      simp [PyData.eqv, vs_eqv hv]
    simp [PyData.eqvAll, e, rows_eqv fun z hz => h z (.tail _ hz)]
theorem RowAt.off {H H' : Hp} {d : Addr} {n : Nat} {v : V} (o : Off H H' d) {kvs : List (Key × V)} (hd : H d = some (.dK kvs)) (r : RowAt H n v) : RowAt H' n v ∧ valsOf H' v = valsOf H v := by
  obtain ⟨a, xs, rfl, h, hn, hv⟩ := r.ex
  have h' := o a _ h (ne_of h hd (by intro z; cases z))
  exact ⟨⟨a, xs, rfl, h', hn, hv⟩, by rw [valsOf_at h, valsOf_at h']⟩
theorem erase_perm {α : Type} : ∀ {ls : List α} {k : Nat} {y : α}, ls[k]? = some y → (y :: ls.eraseIdx k).Perm ls
  | a :: r, 0, y, h => by
    cases h
    exact .refl _
  | a :: r, k + 1, y, h => (List.Perm.swap a y _).trans ((erase_perm (ls := r) (k := k) h).cons a)
section
variable {P : Program} {w : World} {K : PySem.W.Frag} {mg : Str → Option Value} {base : Heap}
def spShuf (K : PySem.W.Frag) : Sp := fun vs H Q _ => ∃ (d a : Addr) (ys : List V) (n : Nat) (p : Int), vs = [.ref d, .ref a] ∧ Tape H d p ∧ p < 900000000 ∧ SqL K H a ys ∧ (∀ y ∈ ys, RowAt H n y) ∧ ys.length ≤ 100 ∧
  ∀ (D : Addr) (zs : List V) (p' : Int) (H' : Hp), zs.Perm ys → H D = none → H' D = some (.lst zs) → Tape H' d p' → p' ≤ p + 100 → Off H H' d → Q (.ref D) H'
abbrev n_law_shuffled : List Str := ["_law_tape", "_law_items", "_law_left", "_law_found"]
theorem sc_law_shuffled : FnScope n_law_shuffled ["_law_tape", "_law_items"] (defScope sShuf) := ⟨rfl, rfl, rfl, by decide +kernel, rfl, by decide +kernel, by decide +kernel⟩
theorem ok_law_shuffled {f : Addr} {fd : FuncData} (F : Fun K "_law_shuffled" "_law_shuffled" sShuf f fd) (B : Blt mg) (DD : Dn P w K mg base 1 "_law_draw" ["_law_tape", "_law_many"] spDraw) : FnOk P w K mg base CX0 2 f fd ["_law_tape", "_law_items"] (spShuf K) := by
  refine F.ok sc_law_shuffled (fun vs H Q E h => ?_) (fun cdv A outer s H vs Q E hr h => ?_)
  · obtain ⟨d, a, ys, n, p, rfl, _⟩ := h
    rfl
  · obtain ⟨d, a, ys, n, p, rfl, T, hp, ha, hy, hn, k⟩ := h
    refine ⟨_, pss_cons (ps_par (i := 2) (j := 3) (by rfl) sc_law_shuffled.nd rfl rfl (by decide) rfl rfl (pa_cons (pe_callTy call_list_of (by rfl) B.list boot_list (pa_cons (pv 1) pa_nil)) (pa_cons (pe_lst pa_nil) pa_nil)) (by rfl))
      (pss_cons (ps_while PassesOwn.never (pt_cmpR (op_neD hr.units) (pv 2) (pe_lst pa_nil) (nomark _)) (pss_one (ps_expr (pe_bm PySem.F.plainAttrs_list PySem.F.slot_list_append PySem.F.type_list_append mt_append (pv 3) (pa_cons (pe_bm PySem.F.plainAttrs_list PySem.F.slot_list_pop PySem.F.type_list_pop mt_popAt (pv 2) (pa_cons (pe_dn DD hr (by rfl) (pa_cons (pv 0) (pa_cons (pe_callB call_len (by rfl) B.len PySem.boot_len (pa_cons (pv 2) pa_nil)) pa_nil))) pa_nil)) pa_nil)))))
      (pss_one (ps_ret (pv 3)))), ?_⟩
    obtain ⟨kvs, hd⟩ := T.at
    refine ⟨_, rfl, a, ys, rfl, .inl ha, fun l hl => ⟨by show 0 ≤ sizeLine; decide, fun f hf => ⟨_, _, rfl, ?_⟩⟩⟩
    have hf0 : H f = none := by
      rw [upd_ne (fun e => by rw [e, upd_same] at hf; cases hf)] at hf
      exact hf
    have nlf : l ≠ f := ne_of_none upd_same hf
    have ndl : d ≠ l := ne_of_none hd hl
    have ndf : d ≠ f := ne_of_none hd hf0
    refine while_by (fun σ H' => ∃ (ls fs : List V) (p' : Int), σ = [some (.ref d), some (.ref a), some (.ref l), some (.ref f)] ∧ H' l = some (.lst ls) ∧ H' f = some (.lst fs) ∧ (fs ++ ls).Perm ys ∧ Tape H' d p' ∧ p' + ls.length ≤ p + ys.length ∧ Off H H' d)
      (fun _ H' => match H' l with | some (.lst ls) => ls.length | _ => 0) ⟨ys, [], p, rfl, by rw [upd_ne nlf]; exact upd_same, upd_same, .refl _, (T.new hl _).new hf _, by omega, ((Off.refl H d).new hl _).new hf _⟩ ?_ ?_
    · rintro σ H1 ⟨ls, fs, p1, rfl, h1, h2, hpm, T1, hp1, o1⟩
      have rows : ∀ y ∈ ls, RowAt H1 n y := fun y hy' => ((hy y (hpm.subset (List.mem_append_right _ hy'))).off o1 hd).1
      have lenP := hpm.length_eq
      rw [List.length_append] at lenP
      refine ⟨_, rfl, by show 0 ≤ sizeLine; decide, fun q hq => ?_⟩
      have nlq : l ≠ q := ne_of_none h1 hq
      have nfq : f ≠ q := ne_of_none h2 hq
      refine ⟨_, _, .lst (SqL.of (by rw [upd_ne nlq]; exact h1)) (rows_dp fun y hy' => ((rows y hy').tups (Tups.of_same (same_new hq _))).1), .lst (SqL.of upd_same) .nil, rows_shaped fun y hy' => ((rows y hy').tups (Tups.of_same (same_new hq _))).1, nil_shaped, _, rfl, ?_⟩
      rw [eqv_nil]
      have T2 := T1.new hq (.lst [])
      have o2 := o1.new hq (.lst [])
      cases ls with
      | nil =>
        refine ifF rfl ?_
        rw [List.append_nil] at hpm
        exact ⟨_, rfl, k f fs p1 _ hpm hf0 (by rw [upd_ne nfq]; exact h2) T2 (by omega) o2⟩
      | cons z zs =>
        refine ifT rfl ?_
        refine ⟨_, rfl, .inl ⟨rfl, fs, SqL.of (by rw [upd_ne nfq]; exact h2)⟩, ⟨_, rfl, .inl ⟨rfl, z :: zs, SqL.of (by rw [upd_ne nlq]; exact h1)⟩, _, rfl, _, rfl, _, (z :: zs).length, rfl, .inl ⟨_, SqL.of (by rw [upd_ne nlq]; exact h1), rfl⟩, ?_⟩⟩
        have zl : (z :: zs).length ≤ 100 := by omega
        refine ⟨d, _, p1, rfl, by rw [List.length_cons]; omega, by omega, T2, by omega, fun m p2 H2 m0 m1 T3 hp2 o3 => ?_⟩
        obtain ⟨kv1, hd1⟩ := T2.at
        have l2 : H2 l = some (.lst (z :: zs)) := o3 _ _ (by rw [upd_ne nlq]; exact h1) ndl.symm
        have f2 : H2 f = some (.lst fs) := o3 _ _ (by rw [upd_ne nfq]; exact h2) ndf.symm
        have hm : m.toNat < (z :: zs).length := by omega
        obtain ⟨y, ey⟩ : ∃ y, (z :: zs)[m.toNat]? = some y := ⟨_, List.getElem?_eq_getElem hm⟩
        refine ⟨l, z :: zs, m, m.toNat, y, rfl, rfl, l2, by omega, by omega, ?_, ey, ?_⟩
        · show (if (decide (0 ≤ (if m < 0 then m + ((z :: zs).length : Int) else m)) && decide ((if m < 0 then m + ((z :: zs).length : Int) else m) < ((z :: zs).length : Int))) = true then some (if m < 0 then m + ((z :: zs).length : Int) else m).toNat else none) = _
          rw [if_neg (by omega : ¬ m < 0), decide_eq_true m0, decide_eq_true m1]
          rfl
        have o4 := o2.trans o3
        have f3 : (L2.upd H2 l (.lst ((z :: zs).eraseIdx m.toNat))) f = some (.lst fs) := by rw [upd_ne nlf.symm]; exact f2
        refine ⟨f, fs, y, rfl, rfl, f3, ?_, ?_⟩
        · exact small1000 (by omega)
        have pm := erase_perm ey
        have lenE := pm.length_eq
        rw [List.length_cons] at lenE
        have T4 : Tape (L2.upd H2 l (.lst ((z :: zs).eraseIdx m.toNat))) d p2 := T3.fresh T o4 hl _
        have o5 : Off H (L2.upd H2 l (.lst ((z :: zs).eraseIdx m.toNat))) d := o4.fresh hl ndl _
        refine ⟨⟨(z :: zs).eraseIdx m.toNat, fs ++ [y], p2, rfl, ?_, upd_same, ?_, T4.fresh T o5 hf0 _, by omega, o5.fresh hf0 ndf _⟩, ?_⟩
        · rw [upd_ne nlf]; exact upd_same
        · refine List.Perm.trans ?_ hpm
          rw [List.append_assoc]
          exact (List.Perm.refl fs).append pm
        · have e1 : (L2.upd (L2.upd H2 l (.lst ((z :: zs).eraseIdx m.toNat))) f (.lst (fs ++ [y]))) l = some (.lst ((z :: zs).eraseIdx m.toNat)) := by rw [upd_ne nlf]; exact upd_same
          show (match (L2.upd (L2.upd H2 l (.lst ((z :: zs).eraseIdx m.toNat))) f (.lst (fs ++ [y]))) l with | some (.lst ls) => ls.length | _ => 0) < (match H1 l with | some (.lst ls) => ls.length | _ => 0)
          rw [e1, h1]
          show ((z :: zs).eraseIdx m.toNat).length < (z :: zs).length
          omega
    · rintro σ H1 Q1 Q2 hQ ⟨v, e, hz, h⟩
      exact ⟨v, e, hz, fun p hp => let ⟨d1, d2, a1, a2, a3, a4, k, ek, q⟩ := h p hp; ⟨d1, d2, a1, a2, a3, a4, k, ek, hQ _ _ q⟩⟩
end
end Ask
namespace Ask
open PySem L2
open PySem.W (EachIs AllAlike Sortable dataLe dataLt alike alikeAll keyToksAll)
/-! ### the order of values and rows -/
def pLt (x y : V) : Bool := cmp3 (fun a b => decide (a < b)) sLt false (p1 x) (p2 x) (p3 x) (p1 y) (p2 y) (p3 y)
theorem pLt_if (x y : V) : pLt x y = if p1 x == p1 y then if p2 x == p2 y then if p3 x == p3 y then false else sLt (p3 x) (p3 y) else decide (p2 x < p2 y) else decide (p1 x < p1 y) := by
  unfold pLt cmp3
  simp only [Ob.lexAt, eq3, op3]
theorem lt_pl (x y : V) : dataLt (plD x) (plD y) = pLt x y := by
  rw [pLt_if]
  unfold plD
  rw [PySem.W.dataLt_tuple, PySem.W.dataLt_cons (alike.eq_3 _ _), PySem.W.dataLt_cons (alike.eq_3 _ _), PySem.W.dataLt_cons (alike.eq_4 _ _), PySem.W.dataLt_int, PySem.W.dataLt_int, PySem.W.dataLt_str]
  simp only [PyData.eqv, sLt]
  rfl
theorem sLt_tri {x y : Str} (h : x ≠ y) : sLt x y = true ∨ sLt y x = true := by
  unfold sLt
  by_cases a : x.cps.toList < y.cps.toList
  · exact .inl (decide_eq_true a)
  · by_cases b : y.cps.toList < x.cps.toList
    · exact .inr (decide_eq_true b)
    · refine (h ?_).elim
      have e : x.cps.toList = y.cps.toList := List.le_antisymm b a
      cases x with
      | mk a => cases y with
        | mk b => exact congrArg Str.mk (Array.toList_inj.mp e)
theorem pLt_tri {x y : V} (hx : vOk x) (hy : vOk y) (h : x ≠ y) : pLt x y = true ∨ pLt y x = true := by
  rw [pLt_if, pLt_if]
  cases x with
  | non =>
    cases y with
    | non => exact (h rfl).elim
    | int j => exact .inl (by simp [p1])
    | str z => exact .inl (by simp [p1])
    | _ => exact hy.elim
  | int i =>
    cases y with
    | non => exact .inr (by simp [p1])
    | int j =>
      have : i ≠ j := fun e => h (by rw [e])
      have a : (i == j) = false := by simpa using this
      have b : (j == i) = false := by simpa using this.symm
      rcases Int.lt_or_gt_of_ne this with q | q
      · exact .inl (by simp [p1, p2, a, q])
      · exact .inr (by simp [p1, p2, b, q])
    | str z => exact .inl (by simp [p1])
    | _ => exact hy.elim
  | str z =>
    cases y with
    | non => exact .inr (by simp [p1])
    | int j => exact .inr (by simp [p1])
    | str z' =>
      have : z ≠ z' := fun e => h (by rw [e])
      have a : (z == z') = false := by simpa using this
      have b : (z' == z) = false := by simpa using this.symm
      simp only [p1, p2, p3, a, b, beq_self_eq_true, if_true, Bool.false_eq_true, if_false]
      exact sLt_tri this
    | _ => exact hy.elim
  | _ => exact hx.elim
def kT (xs : List V) : PyData := .tuple (xs.map plD)
theorem kT_cons {x y : V} (hx : vOk x) (hy : vOk y) (xs ys : List V) : dataLt (kT (x :: xs)) (kT (y :: ys)) = if decide (x = y) = true then dataLt (kT xs) (kT ys) else pLt x y := by
  unfold kT
  rw [PySem.W.dataLt_tuple, PySem.W.dataLt_tuple, List.map_cons, List.map_cons, PySem.W.dataLt_cons (plD_alike x y), pl_eqv hx hy, lt_pl]
theorem kT_anti : ∀ {xs ys : List V}, xs.length = ys.length → (∀ x ∈ xs, vOk x) → (∀ y ∈ ys, vOk y) → dataLt (kT xs) (kT ys) = false → dataLt (kT ys) (kT xs) = false → xs = ys
  | [], [], _, _, _, _, _ => rfl
  | x :: xs, y :: ys, hl, h1, h2, a, b => by
    have hx := h1 x (.head _)
    have hy := h2 y (.head _)
    rw [kT_cons hx hy] at a
    rw [kT_cons hy hx] at b
    by_cases e : x = y
    · subst e
      rw [if_pos (decide_eq_true rfl)] at a b
      rw [kT_anti (by simpa using hl) (fun z hz => h1 z (.tail _ hz)) (fun z hz => h2 z (.tail _ hz)) a b]
    · rw [if_neg (by simpa using e)] at a
      rw [if_neg (by simpa using fun q : y = x => e q.symm)] at b
      rcases pLt_tri hx hy e with q | q
      · rw [q] at a; cases a
      · rw [q] at b; cases b
/-- at the first place that differs the earlier row is less -/
theorem first_lt : ∀ {xs ys : List V} {p : Nat} {x y : V}, xs.length = ys.length → (∀ x ∈ xs, vOk x) → (∀ y ∈ ys, vOk y) → dataLt (kT ys) (kT xs) = false → (∀ q, q < p → xs[q]? = ys[q]?) → xs[p]? = some x → ys[p]? = some y → x ≠ y → pLt x y = true
  | a :: xs, b :: ys, 0, x, y, _, h1, h2, h, _, ex, ey, n => by
    cases ex
    cases ey
    have hx := h1 a (.head _)
    have hy := h2 b (.head _)
    rw [kT_cons hy hx, if_neg (by simpa using fun q : b = a => n q.symm)] at h
    rcases pLt_tri hx hy n with q | q
    · exact q
    · rw [q] at h; cases h
  | a :: xs, b :: ys, p + 1, x, y, hl, h1, h2, h, hq, ex, ey, n => by
    have e : a = b := by
      have := hq 0 (Nat.succ_pos _)
      simpa using this
    subst e
    have ha := h1 a (.head _)
    rw [kT_cons ha ha, if_pos (decide_eq_true rfl)] at h
    exact first_lt (p := p) (by simpa using hl) (fun z hz => h1 z (.tail _ hz)) (fun z hz => h2 z (.tail _ hz)) h (fun q hq' => by simpa using hq (q + 1) (Nat.succ_lt_succ hq')) (by simpa using ex) (by simpa using ey) n
def leV : List V → List V → Bool := dataLe false kT
theorem leV_eq (xs ys : List V) : leV xs ys = !dataLt (kT ys) (kT xs) := by
  unfold leV
  rw [PySem.W.dataLe_eq]
  rfl
theorem leV_total : PySem.W.TotalLe leV := by
  unfold leV dataLe
  exact PySem.W.sortLe_total _ _ _
section
variable {H : Hp} {n : Nat}
theorem key_vals (v : V) : keyT H v = kT (valsOf H v) := rfl
theorem sort_vals (ys : List V) : (ys.mergeSort (dataLe false (keyT H))).map (valsOf H) = (ys.map (valsOf H)).mergeSort leV :=
  PySem.W.sort_maps (valsOf H) fun a _ b _ => by
    rw [leV_eq, PySem.W.dataLe_eq]
    rfl
theorem valsOf_ok {v : V} (r : RowAt H n v) : (valsOf H v).length = n ∧ ∀ x ∈ valsOf H v, vOk x := by
  obtain ⟨t, xs, rfl, h, hn, hv⟩ := r.ex
  rw [valsOf_at h]
  exact ⟨hn, hv⟩
theorem sort_perm {as bs : List (List V)} (hp : as.Perm bs) (ha : ∀ xs ∈ as, xs.length = n ∧ ∀ x ∈ xs, vOk x) : as.mergeSort leV = bs.mergeSort leV := by
  refine List.Perm.eq_of_pairwise (le := fun a b => leV a b = true) (fun a b h1 h2 e1 e2 => ?_) (PySem.W.sort_pairwise leV_total as) (PySem.W.sort_pairwise leV_total bs) (((List.mergeSort_perm as leV).trans hp).trans (List.mergeSort_perm bs leV).symm)
  have ma := ha a ((List.mergeSort_perm as leV).subset h1)
  have mb := ha b (hp.symm.subset ((List.mergeSort_perm bs leV).subset h2))
  rw [leV_eq] at e1 e2
  exact kT_anti (ma.1.trans mb.1.symm) ma.2 mb.2 (by simpa using e2) (by simpa using e1)
end
end Ask
namespace Ask
open PySem L2
open PySem.W (EachIs AllAlike Sortable dataLe dataLt alike alikeAll)
theorem tYes_go {σ : St} {H : Hp} {A B : Hp → Prop} (h : A H) : tYes σ H (fun b H3 => if b = true then A H3 else B H3) := by
  unfold tYes
  exact iteT h
/-! ### lists of rows in order -/
structure Srt (H : Hp) (n : Nat) (VS : List (List V)) (L : List V) : Prop where
  row : ∀ y ∈ L, RowAt H n y
  val : L.map (valsOf H) = VS
theorem Srt.tups {H H' : Hp} {n : Nat} {VS : List (List V)} {L : List V} (t : Tups H H') (s : Srt H n VS L) : Srt H' n VS L :=
  ⟨fun y hy => ((s.row y hy).tups t).1, by rw [← s.val]; exact List.map_congr_left fun y hy => ((s.row y hy).tups t).2⟩
theorem Srt.off {H H' : Hp} {d : Addr} {n : Nat} {VS : List (List V)} {L : List V} {kvs : List (Key × V)} (o : Off H H' d) (hd : H d = some (.dK kvs)) (s : Srt H n VS L) : Srt H' n VS L :=
  ⟨fun y hy => ((s.row y hy).off o hd).1, by rw [← s.val]; exact List.map_congr_left fun y hy => ((s.row y hy).off o hd).2⟩
theorem srt_sort {H : Hp} {n : Nat} {ys : List V} {VS : List (List V)} (h : ∀ y ∈ ys, RowAt H n y) (e : (ys.map (valsOf H)).mergeSort leV = VS) : Srt H n VS (ys.mergeSort (dataLe false (keyT H))) :=
  ⟨fun y hy => h y ((List.mergeSort_perm ys _).subset hy), by rw [sort_vals, e]⟩
theorem srt_data {H : Hp} {n : Nat} {VS : List (List V)} {L : List V} (s : Srt H n VS L) : L.map (rowD H) = VS.map (fun xs => PyData.tuple (xs.map vD)) := by
  rw [← s.val, List.map_map]
  rfl
theorem srt_eqv {H : Hp} {n : Nat} {VS : List (List V)} {L1 L2 : List V} (s1 : Srt H n VS L1) (s2 : Srt H n VS L2) : PyData.eqv (.list (L1.map (rowD H))) (.list (L2.map (rowD H))) = true := by
  have e := rows_eqv s1.row
  rw [srt_data s1] at e
  rw [srt_data s1, srt_data s2]
  simp only [PyData.eqv]
  exact e
theorem srt_ne {K : PySem.W.Frag} {H : Hp} {n : Nat} {VS : List (List V)} {L1 L2 : List V} {a b : Addr} {Q : VK} (s1 : Srt H n VS L1) (s2 : Srt H n VS L2) (h1 : H a = some (.lst L1)) (h2 : H b = some (.lst L2)) (q : Q (.bl false) H) : rNeD K (.ref a) (.ref b) H Q := by
  refine ⟨_, _, .lst (SqL.of h1) (rows_dp s1.row), .lst (SqL.of h2) (rows_dp s2.row), rows_shaped s1.row, rows_shaped s2.row, ?_⟩
  rw [srt_eqv s1 s2]
  exact q
theorem vals_keep {H H' : Hp} {n : Nat} {ys : List V} (h : ∀ y ∈ ys, RowAt H n y) (t : ∀ y, RowAt H n y → RowAt H' n y ∧ valsOf H' y = valsOf H y) : (∀ y ∈ ys, RowAt H' n y) ∧ ys.map (valsOf H') = ys.map (valsOf H) :=
  ⟨fun y hy => (t y (h y hy)).1, List.map_congr_left fun y hy => (t y (h y hy)).2⟩
theorem vals_all {H : Hp} {n : Nat} {ys : List V} (h : ∀ y ∈ ys, RowAt H n y) : ∀ xs ∈ ys.map (valsOf H), xs.length = n ∧ ∀ x ∈ xs, vOk x := fun xs hx => by
  obtain ⟨y, hy, rfl⟩ := List.mem_map.mp hx
  exact valsOf_ok (h y hy)
def diffs (xs ys : List V) (q : Nat) : List Nat := (List.range q).filter fun p => !decide (xs[p]? = ys[p]?)
theorem diffs_succ (xs ys : List V) (q : Nat) : diffs xs ys (q + 1) = if (!decide (xs[q]? = ys[q]?)) = true then diffs xs ys q ++ [q] else diffs xs ys q := by
  unfold diffs
  rw [List.range_succ, List.filter_append]
  cases h : (!decide (xs[q]? = ys[q]?)) with
  | true => rw [if_pos rfl]; simp only [List.filter_cons, h, List.filter_nil, if_true]
  | false => rw [if_neg Bool.false_ne_true]; simp only [List.filter_cons, h, List.filter_nil, Bool.false_eq_true, if_false, List.append_nil]
theorem diffs_head {xs ys : List V} {q p : Nat} {r : List Nat} (h : diffs xs ys q = p :: r) : p < q ∧ xs[p]? ≠ ys[p]? ∧ ∀ j, j < p → xs[j]? = ys[j]? := by
  induction q generalizing p r with
  | zero => cases h
  | succ q ih =>
    rw [diffs_succ] at h
    by_cases e : xs[q]? = ys[q]?
    · rw [if_neg (by simpa using e)] at h
      have := ih h
      exact ⟨by omega, this.2⟩
    · rw [if_pos (by simpa using e)] at h
      cases hd : diffs xs ys q with
      | cons a b =>
        rw [hd] at h
        cases h
        have := ih hd
        exact ⟨by omega, this.2⟩
      | nil =>
        rw [hd] at h
        cases h
        refine ⟨Nat.lt_succ_self _, e, fun j hj => ?_⟩
        by_cases g : xs[j]? = ys[j]?
        · exact g
        · have m : j ∈ diffs xs ys q := List.mem_filter.mpr ⟨List.mem_range.mpr hj, by simpa using g⟩
          rw [hd] at m
          cases m
theorem ints_dp {K : PySem.W.Frag} {H : Hp} : ∀ ps : List Nat, DpAll K H (ps.map fun (p : Nat) => V.int p) (ps.map fun (p : Nat) => PyData.int p)
  | [] => .nil
  | p :: ps => .cons (.int _) (ints_dp ps)
theorem ints_shaped (ps : List Nat) : SeqAt.shaped (.list (ps.map fun (p : Nat) => PyData.int p)) = true := by
  have h1 : ∀ ps : List Nat, PyData.canLayAll0 (ps.map fun (p : Nat) => PyData.int p) = true := fun ps => by
    induction ps with
    | nil => simp [PyData.canLayAll0]
    | cons p ps ih => simp only [List.map_cons, PyData.canLayAll0, PyData.canLay0, ih, Bool.and_self]
  have h2 : ∀ ps : List Nat, PyData.depthAll (ps.map fun (p : Nat) => PyData.int p) ≤ 1 := fun ps => by
    induction ps with
    | nil => simp [PyData.depthAll]
    | cons p ps ih => simp only [List.map_cons, PyData.depthAll, PyData.depth]; omega
  unfold SeqAt.shaped
  have := h2 ps
  simp only [PyData.canLay0, h1, Bool.true_and]
  exact decide_eq_true (by simp only [PyData.depth]; omega)
theorem le_adj {H : Hp} {n : Nat} {VS : List (List V)} {L : List V} {rs : List (List V)} (s : Srt H n VS L) (e : rs.mergeSort leV = VS) {i : Nat} {y0 y1 : V} (h0 : L[i]? = some y0) (h1 : L[i + 1]? = some y1) : dataLt (kT (valsOf H y1)) (kT (valsOf H y0)) = false := by
  have pw := PySem.W.sort_pairwise leV_total rs
  rw [e, ← s.val, List.pairwise_iff_getElem] at pw
  obtain ⟨b0, g0⟩ := List.getElem?_eq_some_iff.mp h0
  obtain ⟨b1, g1⟩ := List.getElem?_eq_some_iff.mp h1
  have := pw i (i + 1) (by rw [List.length_map]; exact b0) (by rw [List.length_map]; exact b1) (Nat.lt_succ_self _)
  rw [List.getElem_map, List.getElem_map, g0, g1, leV_eq] at this
  simpa using this
theorem cut_two {L : List V} {i : Nat} {y0 y1 : V} (h0 : L[i]? = some y0) (h1 : L[i + 1]? = some y1) : cutV L (some ((1 : Int) + i - 1)) (some ((1 : Int) + i + 1)) = [y0, y1] := by
  obtain ⟨b0, g0⟩ := List.getElem?_eq_some_iff.mp h0
  obtain ⟨b1, g1⟩ := List.getElem?_eq_some_iff.mp h1
  unfold cutV HT.sIx
  simp only
  rw [if_neg (by omega), if_neg (by omega)]
  have e1 : min ((1 : Int) + i - 1).toNat L.length = i := by omega
  have e2 : min ((1 : Int) + i + 1).toNat L.length = i + 2 := by omega
  rw [e1, e2, show i + 2 - i = 2 by omega, List.drop_eq_getElem_cons b0, List.drop_eq_getElem_cons b1, g0, g1]
  rfl
theorem cut_last (L : List V) (t : V) : cutV (L ++ [t]) none (some (-1)) = L := by
  unfold cutV HT.sIx
  simp only
  rw [if_pos (by omega), List.length_append, List.length_singleton]
  have e : ((-1 : Int) + ((L.length + 1 : Nat) : Int)).toNat = L.length := by omega
  rw [e, Nat.sub_zero, List.drop_zero, List.take_left]
end Ask
namespace Ask
open PySem L2
open PySem.W (EachIs AllAlike Sortable dataLe dataLt alike alikeAll)
theorem pg_or {X : Cx} {tg : Expr} {g g' : TG} (a : PG X tg g) (b : PG X tg g') : PG X tg (fun v σ H Q => g v σ H Q ∨ g' v σ H Q) :=
  ⟨fun pins s σ H v u Q I r h => h.elim (a.run pins s σ H v u Q I r) (b.run pins s σ H v u Q I r)⟩
structure Defs (P : Program) (w : World) (K : PySem.W.Frag) (mg : Str → Option Value) (base : Heap) : Prop where
  inord : Dn P w K mg base 4 "in_order" ["rows"] (spSort K)
  beg : Dn P w K mg base 1 "_law_begin" ["_law_script"] (spBegin K)
  draw : Dn P w K mg base 1 "_law_draw" ["_law_tape", "_law_many"] spDraw
  pick : Dn P w K mg base 2 "_law_pick" ["_law_tape", "_law_items"] (spPick K)
  shuf : Dn P w K mg base 2 "_law_shuffled" ["_law_tape", "_law_items"] (spShuf K)
  order : Dn P w K mg base 1 "_law_order" ["_law_value_here"] spPlace
  bag : Dn P w K mg base 4 "_law_bag" ["_law_rows"] (spSort K)
  value : Dn P w K mg base 3 "_law_value" ["_law_tape", "_law_kind"] spVal
def rTupOf (K : PySem.W.Frag) : List V → Hp → VK → Prop := fun xs H Q => ∃ (p : Addr) (ys : List V), xs = [.ref p] ∧ ((SqL K H p ys ∧ ∀ l, H l = none → Q (.ref l) (L2.upd H l (.tup ys))) ∨ (SqT K H p ys ∧ Q (.ref p) H))
def scRows : Scope := { kind := .function, names := [(".0", .local), ("_law_k", .local), ("tuple", .globalImplicit), ("_law_kinds", .cell), ("_law_tape", .cell)], isGenerator := false, isCoroutine := false }
def spLaw (K : PySem.W.Frag) : Sp := fun vs H Q _ => ∃ (a : Addr) (ns : List Int), vs = [.ref a] ∧ SqL K H a (ns.map V.int) ∧ ns.length ≤ 63 ∧ ∀ H', Q (.bl true) H'
abbrev n_law : List Str := ["_law_script", "_law_tape", "_law_turn", "_law_k", "_law_kinds", "_law_rows", "_law_found", "_law_places", "_law_one", "_law_other", "_law_kind", "_law_p", "_law_row"]
theorem sc_law : FnScope n_law ["_law_script"] (defScope sLaw) := ⟨rfl, rfl, rfl, by decide +kernel, rfl, by decide +kernel, by decide +kernel⟩
theorem boot_range : bootBuiltins ("range" : Str) = some (.type "range") := by decide +kernel
theorem ok_law {P : Program} {w : World} {K : PySem.W.Frag} {mg : Str → Option Value} {base : Heap} {f : Addr} {fd : FuncData} (F : Fun K "law" "law" sLaw f fd) (B : Blt mg) (D : Defs P w K mg base) : FnOk P w K mg base CX0 5 f fd ["_law_script"] (spLaw K) := by
  refine F.ok sc_law (fun vs H Q E h => ?_) (fun cdv A outer s H vs Q E hr h => ?_)
  · obtain ⟨a, ns, rfl, _⟩ := h
    rfl
  · obtain ⟨a, ns, rfl, hS, hlen, k⟩ := h
    have hr1 : Room 1 _ := hr.mono (by decide)
    have hr2 : Room 2 _ := hr.mono (by decide)
    have hr3 : Room 3 _ := hr.mono (by decide)
    have hu2 : (A.deeper (PyProof.Rows.envOfC "law" (defScope sLaw) s.heap.objs.size f cdv)).units < cLine := by have := hr.un; omega
    refine ⟨_, (pss_cons (ps_set (i := 1) sc_law.nd rfl (Or.inr rfl) (pe_dn D.beg hr1 (by rfl) (pa_cons (pv 0) pa_nil)))
      (pss_cons (ps_for PassesOwn.never rfl (pi_range1 (by rfl) B.range (pa_cons pe_int pa_nil)) (pg_name (i := 2) sc_law.nd rfl (Or.inl rfl)) (pss_cons (ps_set (i := 4) sc_law.nd rfl (Or.inr rfl) (pe_lc (own := [("_law_k", 3)]) (g := gName 3) (tt := tYes) rfl sc_law.nd (pi_range1 (by rfl) B.range (pa_cons (pe_dn D.draw hr1 (by rfl) (pa_cons (pv 1) (pa_cons pe_int pa_nil))) pa_nil)) (blkOk_by (own := [("_law_k", 3)]) (N := n_law) (sc := (defScope sLaw)) (by decide +kernel)) (fun _ _ _ _ _ => pg_name (i := 3) sc_law.nd rfl (Or.inl rfl)) (fun _ _ _ _ _ => pts_nil) (fun _ _ _ _ _ => (pe_dn D.pick hr2 (by rfl) (pa_cons (pv 1) (pa_cons (pe_lst (pa_cons pe_str (pa_cons pe_str pa_nil))) pa_nil))))))
      (pss_cons (ps_setLc (i := 5) (own := [("_law_k", 3)]) (g := gName 3) (tt := tYes) (by rfl) sc_law.nd rfl rfl (sw_true rfl rfl rfl (by decide +kernel)) (pi_range1 (by rfl) B.range (pa_cons (pe_dn D.draw hr1 (by rfl) (pa_cons (pv 1) (pa_cons pe_int pa_nil))) pa_nil)) (blkOk_by (own := [("_law_k", 3)]) (N := n_law) (sc := (defScope sLaw)) (by decide +kernel)) (fun _ _ _ _ _ => pg_name (i := 3) sc_law.nd rfl (Or.inl rfl)) (fun _ _ _ _ _ => pts_nil) (fun _ _ _ _ _ => (pe_callTy (r := rTupOf K) call_tuple_of (by rfl) B.tuple boot_tuple (pa_cons (pe_lc (wi := iList K (tVar 4)) (own := [("_law_kind", 10)]) (g := gName 10) (tt := tYes) rfl sc_law.nd (pi_list (pv 4)) (blkOk_by (own := [("_law_kind", 10)]) (N := n_law) (sc := scRows) (by decide +kernel)) (fun _ _ _ _ _ => pg_name (i := 10) sc_law.nd rfl (Or.inl rfl)) (fun _ _ _ _ _ => pts_nil) (fun _ _ _ _ _ => (pe_dn D.value hr3 (by rfl) (pa_cons (pv 1) (pa_cons (pv 10) pa_nil))))) pa_nil))))
      (pss_cons (ps_set (i := 6) sc_law.nd rfl (Or.inr rfl) (pe_dn D.inord hr (by rfl) (pa_cons (pv 5) pa_nil)))
      (pss_cons (ps_if (pw_or (pt_cmpR (op_neD hr.units) (pv 6) (pe_dn D.bag hr (by rfl) (pa_cons (pv 5) pa_nil)) (nomark _)) (pw_or (pt_cmpR (op_neD hr.units) (pe_dn D.inord hr (by rfl) (pa_cons (pe_dn D.shuf hr2 (by rfl) (pa_cons (pv 1) (pa_cons (pv 5) pa_nil))) pa_nil)) (pv 6) (nomark _)) (pw_or1 (pt_cmpR (op_neD hr.units) (pe_dn D.inord hr (by rfl) (pa_cons (pe_callTy call_tuple_of (by rfl) B.tuple boot_tuple (pa_cons (pv 5) pa_nil)) pa_nil)) (pv 6) (nomark _))))).pt (pss_one (ps_ret pe_bl)) pss_nil)
      (pss_cons (ps_for PassesOwn.never rfl (pi_range2 (by rfl) B.range (pa_cons pe_int (pa_cons (pe_callB call_len (by rfl) B.len PySem.boot_len (pa_cons (pv 6) pa_nil)) pa_nil))) (pg_name (i := 3) sc_law.nd rfl (Or.inr rfl)) (pss_cons (ps_set (i := 7) sc_law.nd rfl (Or.inr rfl) (pe_lc (own := [("_law_p", 11)]) (g := gName 11) rfl sc_law.nd (pi_range1 (by rfl) B.range (pa_cons (pe_callB call_len (by rfl) B.len PySem.boot_len (pa_cons (pv 4) pa_nil)) pa_nil)) (blkOk_by (own := [("_law_p", 11)]) (N := n_law) (sc := (defScope sLaw)) (by decide +kernel)) (fun _ _ _ _ _ => pg_name (i := 11) sc_law.nd rfl (Or.inl rfl)) (fun _ _ _ _ _ => pts_one (pt_cmpR op_ne (pe_ix (r := rIxT K) ix_tup (pe_ix (r := rIxL K) ix_list (pv 6) (pe_op op_sub (pv 3) pe_int) (fun _ _ => rfl)) (pv 11) (fun _ _ => rfl)) (pe_ix (r := rIxT K) ix_tup (pe_ix (r := rIxL K) ix_list (pv 6) (pv 3) (fun _ _ => rfl)) (pv 11) (fun _ _ => rfl)) (nomark _))) (fun _ _ _ _ _ => (pv 11))))
      (pss_cons (ps_asg (pe_ifExp (pt_cmpR (op_neD hr.units) (pv 7) (pe_lst pa_nil) (nomark _)) (pe_lc (own := [("_law_row", 12)]) (g := gName 12) (tt := tYes) rfl sc_law.nd (pi_list (pe_slice sl_list (pv 6) (po_some (pe_op op_sub (pv 3) pe_int)) (po_some (pe_op op_add (pv 3) pe_int)))) (blkOk_by (own := [("_law_row", 12)]) (N := n_law) (sc := (defScope sLaw)) (by decide +kernel)) (fun _ _ _ _ _ => pg_name (i := 12) sc_law.nd rfl (Or.inl rfl)) (fun _ _ _ _ _ => pts_nil) (fun _ _ _ _ _ => (pe_dn D.order hr1 (by rfl) (pa_cons (pe_ix (r := rIxT K) ix_tup (pv 12) (pe_ix (r := rIxL K) ix_list (pe_op op_cat (pv 7) (pe_lst (pa_cons pe_int pa_nil))) pe_int (fun _ _ => rfl)) (fun _ _ => rfl)) pa_nil)))) (pe_tup (pa_cons pe_int (pa_cons pe_int pa_nil)))) (pg_or (pg_lst (by rfl) (pgs_cons (pg_name (i := 8) sc_law.nd rfl (Or.inl rfl)) (pgs_cons (pg_name (i := 9) sc_law.nd rfl (Or.inl rfl)) pgs_nil))) (pg_tup (by rfl) (pgs_cons (pg_name (i := 8) sc_law.nd rfl (Or.inl rfl)) (pgs_cons (pg_name (i := 9) sc_law.nd rfl (Or.inl rfl)) pgs_nil)))))
      (pss_one (ps_if (pt_not (pt_cmpR (OpR.or op_lt (op_lt3 hu2)) (pv 8) (pv 9) (nomark _))) (pss_one (ps_ret pe_bl)) pss_nil)))))
      (pss_cons (ps_expr (pe_bm PySem.F.plainAttrs_list PySem.F.slot_list_append PySem.F.type_list_append mt_append (pv 6) (pa_cons (pe_tup pa_nil) pa_nil)))
      (pss_one (ps_if (pt_cmpR (op_neD hr.units) (pe_dn D.inord hr (by rfl) (pa_cons (pv 5) pa_nil)) (pe_slice sl_list (pv 6) po_none (po_some (pe_un un_neg pe_int))) (nomark _)) (pss_one (ps_ret pe_bl)) pss_nil)))))))))
      (pss_one (ps_ret pe_bl)))), ?_⟩
    refine ⟨_, rfl, a, ns, rfl, hS, fun d H0 hd0 T0 s0 => ?_⟩
    refine ⟨15, rfl, by decide, by decide, for_range (n := 15) (fun i σ H1 => ∃ v2 v3 v4 v5 v6 v7 v8 v9 p, σ = [some (.ref a), some (.ref d), v2, v3, v4, v5, v6, v7, v8, v9, none, none, none] ∧ Tape H1 d p ∧ p ≤ 1000 * (i : Int)) ⟨none, none, none, none, none, none, none, none, 0, rfl, T0, by omega⟩ ?_ ?_⟩
    · rintro i σ H1 hi ⟨v2, v3, v4, v5, v6, v7, v8, v9, p, rfl, T1, hp⟩
      -- kinds
      refine ⟨_, rfl, d, 4, p, rfl, by decide, by decide, T1, by omega, fun n1 p1 H2 a0 a1 T2 hp1 o1 => ⟨n1, rfl, by omega, by omega, fun DK hDK => ?_⟩⟩
      obtain ⟨kv2, hd2⟩ := T2.at
      have ndK : d ≠ DK := ne_of_none hd2 hDK
      refine lc_it walk_range (fun i2 H3 => ∃ (p3 : Int) (ks : List V), Tape H3 d p3 ∧ p3 ≤ p1 + i2 ∧ Off H2 H3 d ∧ H3 DK = some (.lst ks) ∧ ks.length = i2 ∧ ∀ y ∈ ks, ∃ z : Str, y = .str z)
        ⟨p1, [], T2.new hDK _, by omega, (Off.refl _ _).new hDK _, upd_same, rfl, fun _ h => (List.not_mem_nil h).elim⟩ (fun _ _ _ _ => trivial) ?_ ?_
      · rintro i2 y H3 H4 hi2 ⟨p3, ks, T3, hp3, o3, hD3, hks, hkz⟩ ⟨rfl, rfl⟩
        refine ⟨rfl, ?_⟩
        refine tYes_go ?_
        refine ⟨_, rfl, by show 2 ≤ sizeLine; decide, fun l hl => ?_⟩
        refine ⟨d, .ref l, _, p3, rfl, T3.new hl _, by omega, .inl ⟨l, rfl, SqL.of upd_same⟩, (by intro q; cases q), by show 2 < 1073741824; decide, fun x p4 H5 hx T5 hp4 o5 => ?_⟩
        have oo := (o3.new hl _).trans o5
        have hD5 : H5 DK = some (.lst ks) := o5 _ _ (by rw [upd_ne (ne_of_none hD3 hl)]; exact hD3) ndK.symm
        refine ⟨ks, hD5, small1000 (by omega), p4, ks ++ [x], T5.fresh T2 oo hDK _, by omega, oo.fresh hDK ndK _, upd_same, by rw [List.length_append, hks]; rfl, fun y hy => ?_⟩
        rcases List.mem_append.mp hy with hy | hy
        · exact hkz y hy
        · rw [List.mem_singleton.mp hy]
          simp only [List.mem_cons, List.not_mem_nil, or_false] at hx
          rcases hx with rfl | rfl
          · exact ⟨_, rfl⟩
          · exact ⟨_, rfl⟩
      rintro H3 ⟨p3, ks, T3, hp3, o3, hD3, hks, hkz⟩
      have nk : ks.length ≤ 3 := by omega
      -- rows
      refine ⟨_, rfl, d, 7, p3, rfl, by decide, by decide, T3, by omega, fun n2 p4 H4 b0 b1 T4 hp4 o4 => ⟨n2, rfl, by omega, by omega, fun DR hDR => ?_⟩⟩
      obtain ⟨kv4, hd4⟩ := T4.at
      have ndR : d ≠ DR := ne_of_none hd4 hDR
      have hK4 : H4 DK = some (.lst ks) := o4 _ _ hD3 ndK.symm
      refine lc_it walk_range (fun i2 H5 => ∃ (p5 : Int) (rs : List V), Tape H5 d p5 ∧ p5 ≤ p4 + 10 * i2 ∧ Off H4 H5 d ∧ H5 DR = some (.lst rs) ∧ rs.length = i2 ∧ ∀ r ∈ rs, RowAt H5 ks.length r)
        ⟨p4, [], T4.new hDR _, by omega, (Off.refl _ _).new hDR _, upd_same, rfl, fun _ h => (List.not_mem_nil h).elim⟩ (fun _ _ _ _ => trivial) ?_ ?_
      · rintro i2 y H5 H6 hi2 ⟨p5, rs, T5, hp5, o5, hD5, hrs, hR⟩ ⟨rfl, rfl⟩
        refine ⟨rfl, ?_⟩
        refine tYes_go ?_
        have hK6 : H6 DK = some (.lst ks) := o5 _ _ hK4 ndK.symm
        obtain ⟨kv6, hd6⟩ := T5.at
        refine ⟨_, rfl, DK, rfl, ⟨_, SqL.of hK6⟩, fun DV hDV => ?_⟩
        have ndV : d ≠ DV := ne_of_none hd6 hDV
        have nRV : DR ≠ DV := ne_of_none hD5 hDV
        refine lc_list (K := K) (a := DK) (xs := ks) (vs := [10]) (fun i3 H7 => ∃ (p7 : Int) (vs : List V), Tape H7 d p7 ∧ p7 ≤ p5 + 2 * i3 ∧ Off H6 H7 d ∧ H7 DV = some (.lst vs) ∧ vs.length = i3 ∧ ∀ v ∈ vs, vOk v)
          ⟨p5, [], T5.new hDV _, by omega, (Off.refl _ _).new hDV _, upd_same, rfl, fun _ h => (List.not_mem_nil h).elim⟩ (fun i3 H7 _ q => SqL.of (q.choose_spec.choose_spec.2.2.1 _ _ hK6 ndK.symm)) ?_ ?_
        · rintro i3 x H7 hx ⟨p7, vs, T7, hp7, o7, hD7, hvs, hV⟩
          refine ⟨rfl, ?_⟩
          refine tYes_go ?_
          obtain ⟨z, rfl⟩ := hkz x (List.mem_of_getElem? hx)
          have hi3 : i3 < ks.length := (List.getElem?_eq_some_iff.mp hx).1
          refine ⟨_, rfl, _, rfl, d, z, p7, rfl, T7, by omega, fun v p8 H8 hv T8 hp8 o8 => ?_⟩
          have oo := o7.trans o8
          have hD8 : H8 DV = some (.lst vs) := o8 _ _ hD7 ndV.symm
          refine ⟨vs, hD8, small1000 (by omega), p8, vs ++ [v], T8.fresh T5 oo hDV _, by omega, oo.fresh hDV ndV _, upd_same, by rw [List.length_append, hvs]; rfl, fun y hy => ?_⟩
          rcases List.mem_append.mp hy with hy | hy
          · exact hV y hy
          · rw [List.mem_singleton.mp hy]; exact hv
        rintro H7 ⟨p7, vs, T7, hp7, o7, hD7, hvs, hV⟩
        refine ⟨DV, vs, rfl, .inl ⟨SqL.of hD7, fun t ht => ?_⟩⟩
        have o8 : Off H4 (L2.upd H7 t (.tup vs)) d := (o5.trans o7).new ht _
        have T8 : Tape (L2.upd H7 t (.tup vs)) d p7 := T7.new ht _
        have hR7 : H7 DR = some (.lst rs) := o7 _ _ hD5 ndR.symm
        have nRt : DR ≠ t := ne_of_none hR7 ht
        have hR8 : (L2.upd H7 t (.tup vs)) DR = some (.lst rs) := by rw [upd_ne nRt]; exact hR7
        have tp : Tups (L2.upd H7 t (.tup vs)) (L2.upd (L2.upd H7 t (.tup vs)) DR (.lst (rs ++ [.ref t]))) := Tups.lst hR8 _
        refine ⟨rs, hR8, small1000 (by omega), p7, rs ++ [.ref t], T8.fresh T4 o8 hDR _, by omega, o8.fresh hDR ndR _, upd_same, by rw [List.length_append, hrs]; rfl, fun r hr => ?_⟩
        rcases List.mem_append.mp hr with hr | hr
        · exact ((((hR r hr).off (o7.new ht _) hd6).1).tups tp).1
        · rw [List.mem_singleton.mp hr]
          exact (RowAt.tups tp ⟨t, vs, rfl, upd_same, hvs, hV⟩).1
      rintro H5 ⟨p5, rs, T5, hp5, o5, hD5, hrs, hR⟩
      have lrs : rs.length ≤ 6 := by omega
      -- found
      refine ⟨_, rfl, DR, rs, ks.length, rfl, .inl (SqL.of hD5), hR, by omega, fun H6 Fo s6 hFo => ?_⟩
      generalize hVS : (rs.map (valsOf H5)).mergeSort leV = VS
      have S5 := srt_sort hR hVS
      generalize rs.mergeSort (dataLe false (keyT H5)) = L at S5 ⊢
      have k6 := vals_keep hR (fun y r => r.tups (Tups.of_same s6))
      have T6 := T5.same s6
      have nRF : DR ≠ Fo := ne_of_none (s6 _ _ hD5) hFo
      have k7 := vals_keep k6.1 (fun y r => r.tups (Tups.of_same (same_new hFo (.lst L))))
      have S7 : Srt (L2.upd H6 Fo (.lst L)) ks.length VS L := (S5.tups (Tups.of_same s6)).tups (Tups.of_same (same_new hFo _))
      have hR7 : (L2.upd H6 Fo (.lst L)) DR = some (.lst rs) := by rw [upd_ne nRF]; exact s6 _ _ hD5
      have hF7 : (L2.upd H6 Fo (.lst L)) Fo = some (.lst L) := upd_same
      have T7 : Tape (L2.upd H6 Fo (.lst L)) d p5 := T6.new hFo _
      have o67 : Off H6 (L2.upd H6 Fo (.lst L)) d := (Off.refl _ _).new hFo _
      have hK7 : (L2.upd H6 Fo (.lst L)) DK = some (.lst ks) := same_new hFo _ _ _ (s6 _ _ (o5 _ _ hK4 ndK.symm))
      have e7 : ((rs.map (valsOf (L2.upd H6 Fo (.lst L)))).mergeSort leV) = VS := by rw [k7.2, k6.2]; exact hVS
      generalize L2.upd H6 Fo (.lst L) = H7 at k7 S7 hR7 hF7 T7 hK7 e7 o67 ⊢
      replace k7 := k7.1
      clear k6
      -- against the bag
      refine ⟨_, rfl, ⟨_, rfl, DR, rs, ks.length, rfl, .inl (SqL.of hR7), k7, by omega, fun H8 G s8 hG => ?_⟩⟩
      have S8 := (srt_sort k7 e7).tups ((Tups.of_same s8).trans (Tups.of_same (same_new hG (.lst (rs.mergeSort (dataLe false (keyT H7)))))))
      refine srt_ne (S7.tups ((Tups.of_same s8).trans (Tups.of_same (same_new hG _)))) S8 (same_new hG _ _ _ (s8 _ _ hF7)) upd_same ⟨_, rfl, ifF rfl ?_⟩
      have q8 := fun o => s8.trans (same_new hG o)
      generalize rs.mergeSort (dataLe false (keyT H7)) = L8 at S8 ⊢
      -- against a shuffled one
      obtain ⟨kv8, hd8⟩ := (T7.same (q8 (.lst L8))).at
      have k8 := vals_keep k7 (fun y r => r.tups (Tups.of_same (q8 (.lst L8))))
      refine ⟨_, rfl, _, rfl, d, DR, rs, ks.length, p5, rfl, T7.same (q8 _), by omega, SqL.of (q8 _ _ _ hR7), k8.1, by omega, fun DS zs p9 H9 pm hDS eDS T9 hp9 o9 => ?_⟩
      have kz := vals_keep (ys := zs) (fun y hy => k8.1 y (pm.subset hy)) (fun y r => r.off o9 hd8)
      have e9 : (zs.map (valsOf H9)).mergeSort leV = VS := by
        rw [kz.2, sort_perm (pm.map _) (vals_all (fun y hy => k8.1 y (pm.subset hy))), k8.2]
        exact e7
      refine ⟨DS, zs, ks.length, rfl, .inl (SqL.of eDS), kz.1, by omega, fun H10 G2 s10 hG2 => ?_⟩
      have S10 := (srt_sort kz.1 e9).tups ((Tups.of_same s10).trans (Tups.of_same (same_new hG2 (.lst (zs.mergeSort (dataLe false (keyT H9)))))))
      have q10 := fun o => s10.trans (same_new hG2 o)
      have F9 : H9 Fo = some (.lst L) := o9 _ _ (q8 _ _ _ hF7) (fun e => by have h := q8 (.lst L8) _ _ hF7; rw [e, hd8] at h; cases h)
      have S9 := (S7.tups (Tups.of_same (q8 (.lst L8)))).off o9 hd8
      refine ⟨_, rfl, srt_ne S10 (S9.tups (Tups.of_same (q10 _))) upd_same (q10 _ _ _ F9) ⟨_, rfl, ifF rfl ?_⟩⟩
      -- as a tuple
      have hR9 : H9 DR = some (.lst rs) := o9 _ _ (q8 _ _ _ hR7) (fun e => by have h := q8 (.lst L8) _ _ hR7; rw [e, hd8] at h; cases h)
      have hK9 : H9 DK = some (.lst ks) := o9 _ _ (q8 _ _ _ hK7) (fun e => by have h := q8 (.lst L8) _ _ hK7; rw [e, hd8] at h; cases h)
      have k9 := vals_keep k8.1 (fun y r => r.off o9 hd8)
      have eR9 : (rs.map (valsOf H9)).mergeSort leV = VS := by rw [k9.2, k8.2]; exact e7
      replace k9 := k9.1
      have q10 := q10 (.lst (zs.mergeSort (dataLe false (keyT H9))))
      clear S10
      generalize L2.upd H10 G2 (.lst (zs.mergeSort (dataLe false (keyT H9)))) = H11 at q10 ⊢
      refine ⟨_, rfl, DR, rs, rfl, .inl ⟨SqL.of (q10 _ _ hR9), fun t ht => ?_⟩⟩
      have qt := q10.trans (same_new ht (.tup rs))
      have kt := vals_keep k9 (fun y r => r.tups (Tups.of_same qt))
      have et : (rs.map (valsOf (L2.upd H11 t (.tup rs)))).mergeSort leV = VS := by rw [kt.2]; exact eR9
      refine ⟨t, rs, ks.length, rfl, .inr (SqT.of upd_same), kt.1, by omega, fun H12 G3 s12 hG3 => ?_⟩
      have q12 := fun o => s12.trans (same_new hG3 o)
      have S12 := (srt_sort kt.1 et).tups (Tups.of_same (q12 (.lst (rs.mergeSort (dataLe false (keyT (L2.upd H11 t (.tup rs))))))))
      refine ⟨_, rfl, srt_ne S12 (S9.tups (Tups.of_same (qt.trans (q12 _)))) upd_same (qt.trans (q12 _) _ _ F9) ⟨_, rfl, ifF rfl ?_⟩⟩
      have qb := qt.trans (q12 (.lst (rs.mergeSort (dataLe false (keyT (L2.upd H11 t (.tup rs)))))))
      clear S12 q12 kt et
      generalize L2.upd H12 G3 (.lst (rs.mergeSort (dataLe false (keyT (L2.upd H11 t (.tup rs)))))) = Hb at qb ⊢
      have kb := vals_keep k9 (fun y r => r.tups (Tups.of_same qb))
      have eb : (rs.map (valsOf Hb)).mergeSort leV = VS := by rw [kb.2]; exact eR9
      replace kb := kb.1
      have Sb := S9.tups (Tups.of_same qb)
      have hRb := qb _ _ hR9
      have hKb := qb _ _ hK9
      have hFb := qb _ _ F9
      have Tb := T9.same qb
      have Llen : L.length = rs.length := by
        have h1 := congrArg List.length Sb.val
        rw [List.length_map, ← eb, List.length_mergeSort, List.length_map] at h1
        exact h1
      -- one by one
      refine ⟨_, rfl, _, _, rfl, .inl ⟨L, SqL.of hFb, rfl⟩, _, _, rfl, ⟨by omega, by omega, by omega, by omega⟩, for_range (lo := 1) (n := ((L.length : Int) - 1).toNat) (fun j σ H' => ∃ u3 u7 u8 u9, σ = [some (.ref a), some (.ref d), some (.int (0 + (i : Int))), u3, some (.ref DK), some (.ref DR), some (.ref Fo), u7, u8, u9, none, none, none] ∧ Same Hb H') ⟨_, _, _, _, rfl, Same.refl _⟩ ?_ ?_⟩
      · rintro j σ Hc hj ⟨u3, u7, u8, u9, rfl, sc⟩
        have hj1 : j + 1 < L.length := by omega
        obtain ⟨y0, hy0⟩ : ∃ y, L[j]? = some y := ⟨_, List.getElem?_eq_getElem (by omega)⟩
        obtain ⟨y1, hy1⟩ : ∃ y, L[j + 1]? = some y := ⟨_, List.getElem?_eq_getElem hj1⟩
        have Sc := Sb.tups (Tups.of_same sc)
        have lt := le_adj Sc eb hy0 hy1
        obtain ⟨t0, xs0, rfl, ht0, hl0, hv0⟩ := (Sc.row y0 (List.mem_of_getElem? hy0)).ex
        obtain ⟨t1, xs1, rfl, ht1, hl1, hv1⟩ := (Sc.row y1 (List.mem_of_getElem? hy1)).ex
        rw [valsOf_at ht0, valsOf_at ht1] at lt
        have hFc := sc _ _ hFb
        have hKc := sc _ _ hKb
        refine ⟨_, rfl, _, _, rfl, .inl ⟨ks, SqL.of hKc, rfl⟩, _, rfl, by omega, by omega, fun DP hDP => ?_⟩
        refine lc_it walk_range (fun q H3 => Same Hc H3 ∧ H3 DP = some (.lst ((diffs xs0 xs1 q).map fun (p : Nat) => V.int p))) ⟨same_new hDP _, upd_same⟩ (fun _ _ _ _ => trivial) ?_ ?_
        · rintro q y H3 H4 hq ⟨s3, hD3⟩ ⟨rfl, rfl⟩
          have hq : q < ks.length := by omega
          obtain ⟨x0, hx0⟩ : ∃ x, xs0[q]? = some x := ⟨_, List.getElem?_eq_getElem (by omega)⟩
          obtain ⟨x1, hx1⟩ : ∃ x, xs1[q]? = some x := ⟨_, List.getElem?_eq_getElem (by omega)⟩
          refine ⟨rfl, ?_⟩
          refine ⟨_, rfl, _, rfl, _, _, rfl, rfl, Fo, L, _, .ref t0, rfl, rfl, SqL.of (s3 _ _ hFc), at_of (j := j) (by omega) hy0, _, rfl, t0, xs0, _, x0, rfl, rfl, SqT.of (s3 _ _ ht0), at_of (j := q) (by omega) hx0, ?_⟩
          refine ⟨_, rfl, _, rfl, Fo, L, _, .ref t1, rfl, rfl, SqL.of (s3 _ _ hFc), at_of (j := j + 1) (by omega) hy1, _, rfl, t1, xs1, _, x1, rfl, rfl, SqT.of (s3 _ _ ht1), at_of (j := q) (by omega) hx1, ?_⟩
          refine ⟨v_scal (hv0 _ (List.mem_of_getElem? hx0)) (hv1 _ (List.mem_of_getElem? hx1)), _, rfl, ?_⟩
          have ed : decide (xs0[q]? = xs1[q]?) = decide (x0 = x1) := by rw [hx0, hx1]; simp
          have ds := diffs_succ xs0 xs1 q
          rw [ed] at ds
          cases e : (!decide (x0 = x1)) with
          | true =>
            rw [e, if_pos rfl] at ds
            refine iteT ⟨_, rfl, _, hD3, ?_, same_fresh (Same.refl _) hDP s3 _, ?_⟩
            · rw [List.length_map]
              have := List.length_filter_le (fun p => !decide (xs0[p]? = xs1[p]?)) (List.range q)
              rw [List.length_range] at this
              exact small1000 (by unfold diffs; omega)
            · rw [upd_same, ds, List.map_append]
              show some (HO.lst (_ ++ [V.int (0 + (q : Int))])) = _
              rw [Int.zero_add]
              rfl
          | false =>
            rw [e, if_neg Bool.false_ne_true] at ds
            exact iteF ⟨s3, by rw [ds]; exact hD3⟩
        rintro H3 ⟨s3, hD3⟩
        have hD3 : H3 DP = some (.lst ((diffs xs0 xs1 ks.length).map fun (p : Nat) => V.int p)) := hD3
        refine ⟨_, rfl, by show 0 ≤ sizeLine; decide, fun q hq => ?_⟩
        have nPq : DP ≠ q := ne_of_none hD3 hq
        refine ⟨_, _, .lst (SqL.of (by rw [upd_ne nPq]; exact hD3)) (ints_dp _), .lst (SqL.of upd_same) .nil, ints_shaped _, nil_shaped, _, rfl, ?_⟩
        rw [eqv_nil]
        have s4 := s3.trans (same_new hq (.lst []))
        have hD4 : (L2.upd H3 q (.lst [])) DP = some (.lst ((diffs xs0 xs1 ks.length).map fun (p : Nat) => V.int p)) := by rw [upd_ne nPq]; exact hD3
        generalize L2.upd H3 q (.lst []) = H4 at s4 hD4 ⊢
        cases hPL : diffs xs0 xs1 ks.length with
        | nil =>
          refine ifF rfl ?_
          refine ⟨by show 2 ≤ sizeLine; decide, fun t ht => .inr ⟨t, _, rfl, SqT.of upd_same, rfl, ⟨_, _, rfl, ⟨_, _, rfl, ?_⟩⟩⟩⟩
          refine ⟨rfl, ?_⟩
          refine ⟨_, rfl, _, rfl, .inl ⟨0, 1, rfl, rfl, _, rfl, ?_⟩⟩
          exact ifF rfl ⟨_, _, _, _, rfl, sc.trans (s4.trans (same_new ht _))⟩
        | cons p0 pr =>
          rw [hPL] at hD4
          refine ifT rfl ?_
          obtain ⟨hp0, hne, heq⟩ := diffs_head hPL
          obtain ⟨x0, hx0⟩ : ∃ x, xs0[p0]? = some x := ⟨_, List.getElem?_eq_getElem (by omega)⟩
          obtain ⟨x1, hx1⟩ : ∃ x, xs1[p0]? = some x := ⟨_, List.getElem?_eq_getElem (by omega)⟩
          have hx0v := hv0 x0 (List.mem_of_getElem? hx0)
          have hx1v := hv1 x1 (List.mem_of_getElem? hx1)
          have less := first_lt (hl0.trans hl1.symm) hv0 hv1 lt heq hx0 hx1 (fun e => hne (by rw [hx0, hx1, e]))
          refine ⟨_, rfl, _, rfl, _, _, rfl, rfl, _, rfl, _, rfl, _, _, rfl, rfl, _, rfl, Fo, L, rfl, SqL.of (s4 _ _ hFc), fun l hl => ?_⟩
          rw [cut_two hy0 hy1]
          have s5 := s4.trans (same_new hl (.lst [.ref t0, .ref t1]))
          have hl5 : (L2.upd H4 l (.lst [.ref t0, .ref t1])) l = some (.lst [.ref t0, .ref t1]) := upd_same
          have hD5 := same_new hl (.lst [.ref t0, .ref t1]) _ _ hD4
          generalize L2.upd H4 l (.lst [.ref t0, .ref t1]) = H5 at s5 hl5 hD5 ⊢
          refine ⟨l, rfl, ⟨_, SqL.of hl5⟩, fun D hD => ?_⟩
          refine lc_list (K := K) (a := l) (xs := [.ref t0, .ref t1]) (vs := [12]) (fun m H6 => Same H5 H6 ∧ ∃ vs, H6 D = some (.lst vs) ∧ EachIs (TAt H6) vs ([x0, x1].take m)) ⟨same_new hD _, [], upd_same, .nil⟩ (fun m H6 _ q => SqL.of (q.1 _ _ hl5)) ?_ ?_
          · rintro m y H6 hy ⟨s6', vs, hD6, hk⟩
            refine ⟨rfl, ?_⟩
            refine tYes_go ?_
            obtain ⟨t, xs, x, rfl, hts, hxp, hxv, hm⟩ : ∃ (t : Addr) (xs : List V) (x : V), y = .ref t ∧ H6 t = some (.tup xs) ∧ xs[p0]? = some x ∧ vOk x ∧ ([x0, x1] : List V)[m]? = some x := by
              match m, hy with
              | 0, hy => cases hy; exact ⟨t0, xs0, x0, rfl, s6' _ _ (s5 _ _ ht0), hx0, hx0v, rfl⟩
              | 1, hy => cases hy; exact ⟨t1, xs1, x1, rfl, s6' _ _ (s5 _ _ ht1), hx1, hx1v, rfl⟩
              | m + 2, hy => cases hy
            have hm2 : m < 2 := (List.getElem?_eq_some_iff.mp hm).1
            have hvl := each_len hk
            rw [List.length_take] at hvl
            refine ⟨_, rfl, _, rfl, by show 1 ≤ sizeLine; decide, fun l2 hl2 => ⟨DP, l2, _, [.int 0], rfl, rfl, same_new hl2 _ _ _ (s6' _ _ hD5), upd_same, ?_, fun l3 hl3 => ?_⟩⟩
            · have h1 := List.length_filter_le (fun p => !decide (xs0[p]? = xs1[p]?)) (List.range ks.length)
              rw [List.length_range] at h1
              have h2 : (p0 :: pr).length ≤ ks.length := by rw [← hPL]; exact h1
              rw [List.length_map]
              refine line1000 ?_
              show (p0 :: pr).length + 1 ≤ 1000
              omega
            refine ⟨l3, _, _, .int p0, rfl, rfl, SqL.of upd_same, at_of (j := 0) rfl rfl, ?_⟩
            have q6 := (same_new hl2 (.lst [.int 0])).trans (same_new hl3 (.lst ((((p0 :: pr).map fun (p : Nat) => V.int p)) ++ [.int 0])))
            refine ⟨t, xs, _, x, rfl, rfl, SqT.of (q6 _ _ hts), at_of (j := p0) rfl hxp, x, rfl, hxv, fun p hp => ?_⟩
            have q7 := q6.trans (same_new hp (.tup (pl x)))
            refine ⟨vs, q7 _ _ hD6, small1000 (by omega), same_fresh (Same.refl _) hD (s6'.trans q7) _, vs ++ [.ref p], upd_same, ?_⟩
            rw [List.take_add_one, hm]
            have nD : p ≠ D := fun e => by
              have h := q6 _ _ hD6
              rw [e, h] at hp
              cases hp
            exact PySem.W.each_snoc (show TAt _ _ _ from ⟨p, rfl, by rw [upd_ne nD]; exact upd_same⟩) (tats ((Tups.of_same q7).trans (Tups.lst (q7 _ _ hD6) _)) hk)
          · rintro H6 ⟨s6', vs, hD6, hk⟩
            cases hk with
            | cons a r => cases r with
              | cons b r2 =>
                cases r2
                obtain ⟨pa', rfl, ga⟩ := a
                obtain ⟨pb', rfl, gb⟩ := b
                refine .inl ⟨D, _, rfl, SqL.of hD6, rfl, ⟨_, _, rfl, ⟨_, _, rfl, ⟨rfl, ?_⟩⟩⟩⟩
                refine ⟨_, rfl, _, rfl, .inr ⟨pa', pb', _, _, _, _, _, _, rfl, rfl, SqT.of ga, SqT.of gb, _, rfl, ?_⟩⟩
                exact ifF (by show (!pLt x0 x1) = false; rw [less]; rfl) ⟨_, _, _, _, rfl, sc.trans (s5.trans s6')⟩
      · rintro σ Hc ⟨u3, u7, u8, u9, rfl, sc⟩
        have Sc := Sb.tups (Tups.of_same sc)
        have hRc := sc _ _ hRb
        have hFc := sc _ _ hFb
        have Tc := Tb.same sc
        have kc := vals_keep kb (fun y r => r.tups (Tups.of_same sc))
        have ec : (rs.map (valsOf Hc)).mergeSort leV = VS := by rw [kc.2]; exact eb
        replace kc := kc.1
        -- the list is changed
        refine ⟨_, rfl, .inl ⟨rfl, L, SqL.of hFc⟩, by show 0 ≤ sizeLine; decide, fun t ht => ?_⟩
        have hFt : (L2.upd Hc t (.tup [])) Fo = some (.lst L) := same_new ht _ _ _ hFc
        refine ⟨Fo, L, .ref t, rfl, rfl, hFt, small1000 (by omega), ?_⟩
        have tp : Tups Hc (L2.upd (L2.upd Hc t (.tup [])) Fo (.lst (L ++ [.ref t]))) := (Tups.of_same (same_new ht _)).trans (Tups.lst hFt _)
        have kd := vals_keep kc (fun y r => r.tups tp)
        have ed : (rs.map (valsOf (L2.upd (L2.upd Hc t (.tup [])) Fo (.lst (L ++ [.ref t]))))).mergeSort leV = VS := by rw [kd.2]; exact ec
        have Sd := Sc.tups tp
        obtain ⟨kvc, hdc⟩ := Tc.at
        have ndF : d ≠ Fo := fun e => by rw [e, hFc] at hdc; cases hdc
        have hRd : (L2.upd (L2.upd Hc t (.tup [])) Fo (.lst (L ++ [.ref t]))) DR = some (.lst rs) := by rw [upd_ne nRF]; exact same_new ht _ _ _ hRc
        have hFd : (L2.upd (L2.upd Hc t (.tup [])) Fo (.lst (L ++ [.ref t]))) Fo = some (.lst (L ++ [.ref t])) := upd_same
        have o6c : Off H6 (L2.upd Hc t (.tup [])) d := ((((o67.trans (.of_same (q8 (.lst L8)))).trans o9).trans (.of_same qb)).trans (.of_same sc)).new ht _
        have Td : Tape (L2.upd (L2.upd Hc t (.tup [])) Fo (.lst (L ++ [.ref t]))) d p9 := (Tc.new ht _).fresh T6 o6c hFo _
        generalize L2.upd (L2.upd Hc t (.tup [])) Fo (.lst (L ++ [.ref t])) = Hd at kd ed Sd hRd hFd Td ⊢
        refine ⟨_, rfl, DR, rs, ks.length, rfl, .inl (SqL.of hRd), kd.1, by omega, fun He Fe se hFe => ?_⟩
        have qe := fun o => se.trans (same_new hFe o)
        have Se := (srt_sort kd.1 ed).tups (Tups.of_same (qe (.lst (rs.mergeSort (dataLe false (keyT Hd))))))
        refine ⟨_, rfl, 1, rfl, _, rfl, Fo, _, rfl, SqL.of (qe _ _ _ hFd), fun g hg => ?_⟩
        rw [cut_last]
        refine srt_ne (Se.tups (Tups.of_same (same_new hg _))) (Sd.tups (Tups.of_same ((qe _).trans (same_new hg _)))) (by rw [upd_ne (ne_of_none upd_same hg)]; exact upd_same) upd_same ⟨_, rfl, ifF rfl ?_⟩
        exact ⟨_, _, _, _, _, _, _, _, p9, rfl, (Td.same (qe _)).new hg _, by omega⟩
    · rintro σ H1 ⟨v2, v3, v4, v5, v6, v7, v8, v9, p, rfl, _, _⟩
      exact k _
end Ask
namespace Ask
open PySem L2
theorem all_mk {l : PySem.W.OpenLaw} {w : World} {K : PySem.W.Frag} {h : Heap} {mg : Str → Option Value} {f1 f2 f3 f4 f5 f6 f7 f8 f9 f10 f11 f12 fa : Addr} (X : K.In h) (G : h.Ns mainGlobals mg) (hfa : mg "law" = some (.ref fa))
    {od1 an1 : Option Addr} {sl1 : Array (Option Value)} {oc1 kV1 dc1 pm1 cd1 ct1 : Value} {od2 an2 : Option Addr} {sl2 : Array (Option Value)} {oc2 kV2 dc2 pm2 cd2 ct2 : Value} {od3 an3 : Option Addr} {sl3 : Array (Option Value)} {oc3 kV3 dc3 pm3 cd3 ct3 : Value} {od4 an4 : Option Addr} {sl4 : Array (Option Value)} {oc4 kV4 dc4 pm4 cd4 ct4 : Value} {od5 an5 : Option Addr} {sl5 : Array (Option Value)} {oc5 kV5 dc5 pm5 cd5 ct5 : Value} {od6 an6 : Option Addr} {sl6 : Array (Option Value)} {oc6 kV6 dc6 pm6 cd6 ct6 : Value} {od7 an7 : Option Addr} {sl7 : Array (Option Value)} {oc7 kV7 dc7 pm7 cd7 ct7 : Value} {od8 an8 : Option Addr} {sl8 : Array (Option Value)} {oc8 kV8 dc8 pm8 cd8 ct8 : Value} {od9 an9 : Option Addr} {sl9 : Array (Option Value)} {oc9 kV9 dc9 pm9 cd9 ct9 : Value} {od10 an10 : Option Addr} {sl10 : Array (Option Value)} {oc10 kV10 dc10 pm10 cd10 ct10 : Value} {od11 an11 : Option Addr} {sl11 : Array (Option Value)} {oc11 kV11 dc11 pm11 cd11 ct11 : Value} {od12 an12 : Option Addr} {sl12 : Array (Option Value)} {oc12 kV12 dc12 pm12 cd12 ct12 : Value}
    (a1 : PySem.W.nsIn K mainGlobals "value_place" = some (some (.ref f1))) (l1 : K.lookup f1 = some ⟨oc1, od1, .func (PySem.W.fnOf "value_place" "value_place" (defArgs sPlace) (defBody sPlace) (defScope sPlace) .none kV1 dc1 pm1 an1 cd1 ct1), sl1⟩) (c1 : PySem.W.codeIn K cd1 "value_place" = true) (k1 : PySem.W.keepIn K (.ref f1) = true)
    (a2 : PySem.W.nsIn K mainGlobals "row_place" = some (some (.ref f2))) (l2 : K.lookup f2 = some ⟨oc2, od2, .func (PySem.W.fnOf "row_place" "row_place" (defArgs sRowPl) (defBody sRowPl) (defScope sRowPl) .none kV2 dc2 pm2 an2 cd2 ct2), sl2⟩) (c2 : PySem.W.codeIn K cd2 "row_place" = true) (k2 : PySem.W.keepIn K (.ref f2) = true)
    (a3 : PySem.W.nsIn K mainGlobals "in_order" = some (some (.ref f3))) (l3 : K.lookup f3 = some ⟨oc3, od3, .func (PySem.W.fnOf "in_order" "in_order" (defArgs sInOrd) (defBody sInOrd) (defScope sInOrd) .none kV3 dc3 pm3 an3 cd3 ct3), sl3⟩) (c3 : PySem.W.codeIn K cd3 "in_order" = true) (k3 : PySem.W.keepIn K (.ref f3) = true)
    (a4 : PySem.W.nsIn K mainGlobals "_law_begin" = some (some (.ref f4))) (l4 : K.lookup f4 = some ⟨oc4, od4, .func (PySem.W.fnOf "_law_begin" "_law_begin" (defArgs sBegin) (defBody sBegin) (defScope sBegin) .none kV4 dc4 pm4 an4 cd4 ct4), sl4⟩) (c4 : PySem.W.codeIn K cd4 "_law_begin" = true) (k4 : PySem.W.keepIn K (.ref f4) = true)
    (a5 : PySem.W.nsIn K mainGlobals "_law_draw" = some (some (.ref f5))) (l5 : K.lookup f5 = some ⟨oc5, od5, .func (PySem.W.fnOf "_law_draw" "_law_draw" (defArgs sDraw) (defBody sDraw) (defScope sDraw) .none kV5 dc5 pm5 an5 cd5 ct5), sl5⟩) (c5 : PySem.W.codeIn K cd5 "_law_draw" = true) (k5 : PySem.W.keepIn K (.ref f5) = true)
    (a6 : PySem.W.nsIn K mainGlobals "_law_pick" = some (some (.ref f6))) (l6 : K.lookup f6 = some ⟨oc6, od6, .func (PySem.W.fnOf "_law_pick" "_law_pick" (defArgs sPick) (defBody sPick) (defScope sPick) .none kV6 dc6 pm6 an6 cd6 ct6), sl6⟩) (c6 : PySem.W.codeIn K cd6 "_law_pick" = true) (k6 : PySem.W.keepIn K (.ref f6) = true)
    (a7 : PySem.W.nsIn K mainGlobals "_law_shuffled" = some (some (.ref f7))) (l7 : K.lookup f7 = some ⟨oc7, od7, .func (PySem.W.fnOf "_law_shuffled" "_law_shuffled" (defArgs sShuf) (defBody sShuf) (defScope sShuf) .none kV7 dc7 pm7 an7 cd7 ct7), sl7⟩) (c7 : PySem.W.codeIn K cd7 "_law_shuffled" = true) (k7 : PySem.W.keepIn K (.ref f7) = true)
    (a8 : PySem.W.nsIn K mainGlobals "_law_order" = some (some (.ref f8))) (l8 : K.lookup f8 = some ⟨oc8, od8, .func (PySem.W.fnOf "_law_order" "_law_order" (defArgs sOrder) (defBody sOrder) (defScope sOrder) .none kV8 dc8 pm8 an8 cd8 ct8), sl8⟩) (c8 : PySem.W.codeIn K cd8 "_law_order" = true) (k8 : PySem.W.keepIn K (.ref f8) = true)
    (a9 : PySem.W.nsIn K mainGlobals "_law_row_order" = some (some (.ref f9))) (l9 : K.lookup f9 = some ⟨oc9, od9, .func (PySem.W.fnOf "_law_row_order" "_law_row_order" (defArgs sRowOrd) (defBody sRowOrd) (defScope sRowOrd) .none kV9 dc9 pm9 an9 cd9 ct9), sl9⟩) (c9 : PySem.W.codeIn K cd9 "_law_row_order" = true) (k9 : PySem.W.keepIn K (.ref f9) = true)
    (a10 : PySem.W.nsIn K mainGlobals "_law_bag" = some (some (.ref f10))) (l10 : K.lookup f10 = some ⟨oc10, od10, .func (PySem.W.fnOf "_law_bag" "_law_bag" (defArgs sBag) (defBody sBag) (defScope sBag) .none kV10 dc10 pm10 an10 cd10 ct10), sl10⟩) (c10 : PySem.W.codeIn K cd10 "_law_bag" = true) (k10 : PySem.W.keepIn K (.ref f10) = true)
    (a11 : PySem.W.nsIn K mainGlobals "_law_value" = some (some (.ref f11))) (l11 : K.lookup f11 = some ⟨oc11, od11, .func (PySem.W.fnOf "_law_value" "_law_value" (defArgs sVal) (defBody sVal) (defScope sVal) .none kV11 dc11 pm11 an11 cd11 ct11), sl11⟩) (c11 : PySem.W.codeIn K cd11 "_law_value" = true) (k11 : PySem.W.keepIn K (.ref f11) = true)
    (a12 : PySem.W.nsIn K mainGlobals "law" = some (some (.ref f12))) (l12 : K.lookup f12 = some ⟨oc12, od12, .func (PySem.W.fnOf "law" "law" (defArgs sLaw) (defBody sLaw) (defScope sLaw) .none kV12 dc12 pm12 an12 cd12 ct12), sl12⟩) (c12 : PySem.W.codeIn K cd12 "law" = true) (k12 : PySem.W.keepIn K (.ref f12) = true)
    (z0 : PySem.W.nsIn K mainGlobals "len" = some none)    (z1 : PySem.W.nsIn K mainGlobals "int" = some none)    (z2 : PySem.W.nsIn K mainGlobals "str" = some none)    (z3 : PySem.W.nsIn K mainGlobals "isinstance" = some none)    (z4 : PySem.W.nsIn K mainGlobals "tuple" = some none)    (z5 : PySem.W.nsIn K mainGlobals "list" = some none)    (z6 : PySem.W.nsIn K mainGlobals "range" = some none)    (z7 : PySem.W.nsIn K mainGlobals "sorted" = some none)
 :
    ∃ fd : FuncData, (∀ (s : Shared) (v : Value), BindsTo s fd ⟨[v], []⟩ [("_law_script", v)]) ∧ ∀ base : Heap, K.In base → base.Ns mainGlobals mg → FnOk l.prog w K mg base CX0 5 fa fd ["_law_script"] (spLaw K) := by
  have e := hfa.symm.trans (PySem.W.mg_of X G a12)
  cases e
  have B : Blt mg := ⟨PySem.W.mg_none_of X G z0, PySem.W.mg_none_of X G z1, PySem.W.mg_none_of X G z2, PySem.W.mg_none_of X G z3, PySem.W.mg_none_of X G z4, PySem.W.mg_none_of X G z5, PySem.W.mg_none_of X G z6, PySem.W.mg_none_of X G z7⟩
  have F1 := fun_mk (st := sPlace) l1 c1 k1
  have b1 := F1.binds (ps := ["value"]) fun _ _ _ _ _ _ us hl => match us, hl with | [_], _ => rfl
  have F2 := fun_mk (st := sRowPl) l2 c2 k2
  have b2 := F2.binds (ps := ["row"]) fun _ _ _ _ _ _ us hl => match us, hl with | [_], _ => rfl
  have F3 := fun_mk (st := sInOrd) l3 c3 k3
  have b3 := F3.binds (ps := ["rows"]) fun _ _ _ _ _ _ us hl => match us, hl with | [_], _ => rfl
  have F4 := fun_mk (st := sBegin) l4 c4 k4
  have b4 := F4.binds (ps := ["_law_script"]) fun _ _ _ _ _ _ us hl => match us, hl with | [_], _ => rfl
  have F5 := fun_mk (st := sDraw) l5 c5 k5
  have b5 := F5.binds (ps := ["_law_tape", "_law_many"]) fun _ _ _ _ _ _ us hl => match us, hl with | [_, _], _ => rfl
  have F6 := fun_mk (st := sPick) l6 c6 k6
  have b6 := F6.binds (ps := ["_law_tape", "_law_items"]) fun _ _ _ _ _ _ us hl => match us, hl with | [_, _], _ => rfl
  have F7 := fun_mk (st := sShuf) l7 c7 k7
  have b7 := F7.binds (ps := ["_law_tape", "_law_items"]) fun _ _ _ _ _ _ us hl => match us, hl with | [_, _], _ => rfl
  have F8 := fun_mk (st := sOrder) l8 c8 k8
  have b8 := F8.binds (ps := ["_law_value_here"]) fun _ _ _ _ _ _ us hl => match us, hl with | [_], _ => rfl
  have F9 := fun_mk (st := sRowOrd) l9 c9 k9
  have b9 := F9.binds (ps := ["_law_row"]) fun _ _ _ _ _ _ us hl => match us, hl with | [_], _ => rfl
  have F10 := fun_mk (st := sBag) l10 c10 k10
  have b10 := F10.binds (ps := ["_law_rows"]) fun _ _ _ _ _ _ us hl => match us, hl with | [_], _ => rfl
  have F11 := fun_mk (st := sVal) l11 c11 k11
  have b11 := F11.binds (ps := ["_law_tape", "_law_kind"]) fun _ _ _ _ _ _ us hl => match us, hl with | [_, _], _ => rfl
  have F12 := fun_mk (st := sLaw) l12 c12 k12
  refine ⟨PySem.W.fnOf "law" "law" (defArgs sLaw) (defBody sLaw) (defScope sLaw) .none kV12 dc12 pm12 an12 cd12 ct12, fun s v => .of_eq rfl, fun base _ _ => ?_⟩
  have D1 : Dn l.prog w K mg base 1 "value_place" ["value"] spPlace := ⟨f1, _, PySem.W.mg_of X G a1, k1, b1, ok_value_place F1 B⟩
  have D2 : Dn l.prog w K mg base 2 "row_place" ["row"] (spKey (K := K) fun xs => .tuple (xs.map plD)) := ⟨f2, _, PySem.W.mg_of X G a2, k2, b2, ok_row_place F2 B D1⟩
  have D3 : Dn l.prog w K mg base 4 "in_order" ["rows"] (spSort K) := ⟨f3, _, PySem.W.mg_of X G a3, k3, b3, ok_in_order F3 B D2⟩
  have D4 : Dn l.prog w K mg base 1 "_law_begin" ["_law_script"] (spBegin K) := ⟨f4, _, PySem.W.mg_of X G a4, k4, b4, ok_begin F4⟩
  have D5 : Dn l.prog w K mg base 1 "_law_draw" ["_law_tape", "_law_many"] spDraw := ⟨f5, _, PySem.W.mg_of X G a5, k5, b5, ok_draw F5 B⟩
  have D6 : Dn l.prog w K mg base 2 "_law_pick" ["_law_tape", "_law_items"] (spPick K) := ⟨f6, _, PySem.W.mg_of X G a6, k6, b6, ok_pick F6 B D5⟩
  have D7 : Dn l.prog w K mg base 2 "_law_shuffled" ["_law_tape", "_law_items"] (spShuf K) := ⟨f7, _, PySem.W.mg_of X G a7, k7, b7, ok_law_shuffled F7 B D5⟩
  have D8 : Dn l.prog w K mg base 1 "_law_order" ["_law_value_here"] spPlace := ⟨f8, _, PySem.W.mg_of X G a8, k8, b8, ok_law_order F8 B⟩
  have D9 : Dn l.prog w K mg base 2 "_law_row_order" ["_law_row"] (spKey (K := K) fun xs => .list (xs.map plD)) := ⟨f9, _, PySem.W.mg_of X G a9, k9, b9, ok_law_row_order F9 B D8⟩
  have D10 : Dn l.prog w K mg base 4 "_law_bag" ["_law_rows"] (spSort K) := ⟨f10, _, PySem.W.mg_of X G a10, k10, b10, ok_law_bag F10 B D9⟩
  have D11 : Dn l.prog w K mg base 3 "_law_value" ["_law_tape", "_law_kind"] spVal := ⟨f11, _, PySem.W.mg_of X G a11, k11, b11, ok_law_value F11 B D5 D6⟩
  exact ok_law F12 B ⟨D3, D4, D5, D6, D7, D8, D10, D11⟩

theorem walk {l : PySem.W.OpenLaw} {q : Program} {loose : List Str} {XP : (Str → Option Value) → Heap → Prop} {YP : World → Heap → Prop} {d : DefRec} {K : Params → PySem.W.Frag} (hn : l.most = some 63) (hdf : d.params.defaults = [])
    (hY : ∀ (w : World) (h : Heap), YP w h → (K w.params).In h)
    (F : ∀ (w : World) (mg : Str → Option Value) (fa : Addr) (h : Heap), (K w.params).In h → h.Ns mainGlobals mg → mg d.name = some (.ref fa) →
      ∃ fd : FuncData, (∀ (s : Shared) (u : Value), BindsTo s fd ⟨[u], []⟩ [("_law_script", u)]) ∧ ∀ base : Heap, (K w.params).In base → base.Ns mainGlobals mg → FnOk l.prog w (K w.params) mg base CX0 5 fa fd ["_law_script"] (spLaw (K w.params))) :
    PySem.W.WalkO q loose XP YP l.row.toRowW d [] (fun f vs => PySem.call f vs) :=
  L2.walk_of (n := 63) (k := 5) (x := "_law_script") (CX := fun _ => CX0) (sp := fun w => spLaw (K w.params)) hn (by decide) hdf ⟨rfl, by decide, by decide⟩ hY F (fun _ _ a ns hl _ hS => ⟨a, ns, rfl, hS, hl, fun _ => rfl⟩) fun _ _ _ _ _ z => z
end Ask
open PySem PySem.W PyProof.Rows
set_option maxRecDepth 100000 in
set_option maxHeartbeats 0 in
theorem PySem.Challenge.cw_innerasks_k05_whole_bags_holds : PySem.Challenge.rw_innerasks_k05_whole_bags.Holds := by
  w_on; o_law; k_head; (case hw => w_witness2)
  k_fill
  refine Ask.walk (l := PySem.Challenge.rw_innerasks_k05_whole_bags) rfl rfl (fun w h Y => PySem.W.kIn_of Y) ?F
  case F =>
    intro w mg fa h KX G hmg
    refine' Ask.all_mk KX G hmg ?a1 ?l1 ?c1 ?k1 ?a2 ?l2 ?c2 ?k2 ?a3 ?l3 ?c3 ?k3 ?a4 ?l4 ?c4 ?k4 ?a5 ?l5 ?c5 ?k5 ?a6 ?l6 ?c6 ?k6 ?a7 ?l7 ?c7 ?k7 ?a8 ?l8 ?c8 ?k8 ?a9 ?l9 ?c9 ?k9 ?a10 ?l10 ?c10 ?k10 ?a11 ?l11 ?c11 ?k11 ?a12 ?l12 ?c12 ?k12 ?z0 ?z1 ?z2 ?z3 ?z4 ?z5 ?z6 ?z7
    (case a1 => k_is)
    (case l1 => k_is)
    (case c1 => k_is)
    (case k1 => k_is)
    (case a2 => k_is)
    (case l2 => k_is)
    (case c2 => k_is)
    (case k2 => k_is)
    (case a3 => k_is)
    (case l3 => k_is)
    (case c3 => k_is)
    (case k3 => k_is)
    (case a4 => k_is)
    (case l4 => k_is)
    (case c4 => k_is)
    (case k4 => k_is)
    (case a5 => k_is)
    (case l5 => k_is)
    (case c5 => k_is)
    (case k5 => k_is)
    (case a6 => k_is)
    (case l6 => k_is)
    (case c6 => k_is)
    (case k6 => k_is)
    (case a7 => k_is)
    (case l7 => k_is)
    (case c7 => k_is)
    (case k7 => k_is)
    (case a8 => k_is)
    (case l8 => k_is)
    (case c8 => k_is)
    (case k8 => k_is)
    (case a9 => k_is)
    (case l9 => k_is)
    (case c9 => k_is)
    (case k9 => k_is)
    (case a10 => k_is)
    (case l10 => k_is)
    (case c10 => k_is)
    (case k10 => k_is)
    (case a11 => k_is)
    (case l11 => k_is)
    (case c11 => k_is)
    (case k11 => k_is)
    (case a12 => k_is)
    (case l12 => k_is)
    (case c12 => k_is)
    (case k12 => k_is)
    (case z0 => k_is)
    (case z1 => k_is)
    (case z2 => k_is)
    (case z3 => k_is)
    (case z4 => k_is)
    (case z5 => k_is)
    (case z6 => k_is)
    (case z7 => k_is)
