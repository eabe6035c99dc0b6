import PyProof.Rows.All
import Wide.All
import OpenK.AllK
import Wide.FinOn
import HandS.ForMost
import HandS.Flow
import HandS.Small
import HandS.IsInst
import HandS.RaiseMore
import HandS.Walk
import HandS.FStr
import HandS.Style
import PySem.Challenge.RW_innerasks_k10_names
set_option Elab.async false
set_option maxRecDepth 100000
set_option maxHeartbeats 4000000
set_option linter.all false
set_option linter.all false
namespace Ask
open PySem L2
def top (i : Nat) : Stmt := PySem.Challenge.pw_innerasks_k10_names.main.body.getD i (.Pass ⟨0, 0, 0, 0⟩)
abbrev sIsName : Stmt := top 3
abbrev sBegin : Stmt := top 5
abbrev sDraw : Stmt := top 6
abbrev sPick : Stmt := top 7
abbrev sOdd : Stmt := top 8
abbrev sKeys : Stmt := top 9
abbrev sDue : Stmt := top 10
abbrev sLaw : Stmt := top 11
/-! ### the tape -/
abbrev kCells : Key := Sum.inr "cells"
abbrev kPlace : Key := Sum.inr "place"
abbrev kLeft : Key := Sum.inr "left"
theorem ne_cp : ¬ (kCells = kPlace) := by decide +kernel
theorem ne_cl : ¬ (kCells = kLeft) := by decide +kernel
theorem ne_pl : ¬ (kPlace = kLeft) := by decide +kernel
theorem ne_pc : ¬ (kPlace = kCells) := by decide +kernel
theorem ne_lc : ¬ (kLeft = kCells) := by decide +kernel
theorem ne_lp : ¬ (kLeft = kPlace) := by decide +kernel
def tapeD (c : Addr) (p l : Int) : List (Key × V) := [(kCells, .ref c), (kPlace, .int p), (kLeft, .int l)]
theorem tape_cells (c : Addr) (p l : Int) : valV (tapeD c p l) kCells = some (.ref c) := by
  unfold tapeD; rw [valV_pos rfl]
theorem tape_place (c : Addr) (p l : Int) : valV (tapeD c p l) kPlace = some (.int p) := by
  unfold tapeD; rw [valV_neg ne_cp, valV_pos rfl]
theorem tape_left (c : Addr) (p l : Int) : valV (tapeD c p l) kLeft = some (.int l) := by
  unfold tapeD; rw [valV_neg ne_cl, valV_neg ne_pl, valV_pos rfl]
theorem tape_put_place (c : Addr) (p l q : Int) : putK (tapeD c p l) kPlace (.int q) = tapeD c q l := by
  unfold putK tapeD
  rw [if_pos (by simp)]
  show [if kCells = kPlace then (kCells, V.int q) else (kCells, V.ref c), if kPlace = kPlace then (kPlace, V.int q) else (kPlace, V.int p), if kLeft = kPlace then (kLeft, V.int q) else (kLeft, V.int l)] = _
  rw [if_neg ne_cp, if_pos rfl, if_neg ne_lp]
theorem tape_put_left (c : Addr) (p l q : Int) : putK (tapeD c p l) kLeft (.int q) = tapeD c p q := by
  unfold putK tapeD
  rw [if_pos (by simp)]
  show [if kCells = kLeft then (kCells, V.int q) else (kCells, V.ref c), if kPlace = kLeft then (kPlace, V.int q) else (kPlace, V.int p), if kLeft = kLeft then (kLeft, V.int q) else (kLeft, V.int l)] = _
  rw [if_neg ne_cl, if_neg ne_pl, if_pos rfl]
/-- a tape at d, p draws of cells done -/
def Tape (H : Hp) (d : Addr) (p : Int) : Prop :=
  ∃ (c : Addr) (ns : List Int) (l : Int), H d = some (.dK (tapeD c p l)) ∧ H c = some (.lst (ns.map V.int)) ∧ ns ≠ [] ∧ 0 ≤ l ∧ 0 ≤ p
/-- all that was tracked is as it was, but for d -/
def Off (H H' : Hp) (d : Addr) : Prop := ∀ b o, H b = some o → b ≠ d → H' b = some o
theorem Off.refl (H : Hp) (d : Addr) : Off H H d := fun _ _ h _ => h
theorem Off.trans {H H1 H2 : Hp} {d : Addr} (a : Off H H1 d) (b : Off H1 H2 d) : Off H H2 d := fun c o h n => b c o (a c o h n) n
theorem Off.upd {H H1 : Hp} {d : Addr} (a : Off H H1 d) (o : HO) : Off H (upd H1 d o) d := fun c u h n => by
  rw [upd_ne n]; exact a c u h n
theorem Off.new {H H1 : Hp} {d p : Addr} (a : Off H H1 d) (hp : H1 p = none) (o : HO) : Off H (L2.upd H1 p o) d := fun c u h n => by
  rw [upd_ne (ne_of_none (a c u h n) hp)]; exact a c u h n
theorem Off.of_same {H H1 : Hp} {d : Addr} (a : Same H H1) : Off H H1 d := fun c u h _ => a c u h
theorem Tape.new {H : Hp} {d p : Addr} {i : Int} (t : Tape H d i) (hp : H p = none) (o : HO) : Tape (L2.upd H p o) d i := by
  obtain ⟨c, ns, l, h1, h2, h3, h4, h5⟩ := t
  exact ⟨c, ns, l, by rw [upd_ne (ne_of_none h1 hp)]; exact h1, by rw [upd_ne (ne_of_none h2 hp)]; exact h2, h3, h4, h5⟩
theorem Tape.same {H H1 : Hp} {d : Addr} {i : Int} (t : Tape H d i) (a : Same H H1) : Tape H1 d i := by
  obtain ⟨c, ns, l, h1, h2, h3, h4, h5⟩ := t
  exact ⟨c, ns, l, a _ _ h1, a _ _ h2, h3, h4, h5⟩
theorem Tape.at {H : Hp} {d : Addr} {i : Int} (t : Tape H d i) : ∃ kvs, H d = some (.dK kvs) := let ⟨_, _, _, h, _⟩ := t; ⟨_, h⟩

/-! ### a def of the text, with all that a caller wants of it -/
structure Dn (P : Program) (w : World) (K : PySem.W.Frag) (mg : Str → Option Value) (base : Heap) (k : Nat) (x : Str) (ps : List Str) (sp : Sp) : Prop where
  ex : ∃ (f : Addr) (fd : FuncData), mg x = some (.ref f) ∧ PySem.W.keepIn K (.ref f) = true ∧ Binds K fd ps [] ∧ FnOk P w K mg base CX0 k f fd ps sp
theorem pe_dn {X : Cx} {k : Nat} {x : Str} {ps : List Str} {sp : Sp} {e : Expr} {es : List Expr} {t : TA} {p pos : Pos} (D : Dn X.prog X.w X.K X.mg X.base k x ps sp) (hr : Room k X.A) (hg : Gl X x) (ha : PA X (e :: es) t) (hdb : (x == ("__debug__" : Str)) = false := by decide)
    (he : starEach (e :: es) X.env = (false, eval e X.env) :: starEach es X.env := by rfl) (hpl : (backTo pos (starEach es X.env)).any (·.1) = false := by rfl) : PE X (.Call (.Name x p) (e :: es) [] pos) (tCall sp [] E0 t) := by
  obtain ⟨f, fd, hm, kp, hb, F⟩ := D.ex
  exact pe_call F hr hg hm kp hb .nil pass0 ha hdb he hpl
theorem pe_dn0 {X : Cx} {k : Nat} {x : Str} {ps : List Str} {sp : Sp} {p pos : Pos} (D : Dn X.prog X.w X.K X.mg X.base k x ps sp) (hr : Room k X.A) (hg : Gl X x) (hdb : (x == ("__debug__" : Str)) = false := by decide) : PE X (.Call (.Name x p) [] [] pos) (tCall sp [] E0 tNil) := by
  obtain ⟨f, fd, hm, kp, hb, F⟩ := D.ex
  exact pe_call0 F hr hg hm kp hb .nil pass0 hdb
/-- the built-ins that the module leaves as they are -/
structure Blt (mg : Str → Option Value) : Prop where
  len : mg "len" = none
  int : mg "int" = none
  str : mg "str" = none
  isi : mg "isinstance" = none
  all : mg "all" = none
  range : mg "range" = none
  repr : mg "repr" = none

section
variable {P : Program} {w : World} {K : PySem.W.Frag} {mg : Str → Option Value} {base : Heap}
theorem boot_int : bootBuiltins ("int" : Str) = some (.type "int") := by decide +kernel
/-! ### _law_draw -/
def spDraw : Sp := fun vs H Q _ => ∃ (d : Addr) (m p : Int), vs = [.ref d, .int m] ∧ 0 < m ∧ m < 1073741824 ∧ Tape H d p ∧ p < 1000000000 ∧
  ∀ (n p' : Int) (H' : Hp), 0 ≤ n → n < m → Tape H' d p' → p' ≤ p + 1 → Off H H' d → Q (.int n) H'
abbrev nD : List Str := ["_law_tape", "_law_many", "_law_place", "_law_size", "_law_cell", "_law_found"]
theorem scD : FnScope nD ["_law_tape", "_law_many"] (defScope sDraw) := ⟨rfl, rfl, rfl, by decide +kernel, rfl, by decide +kernel, by decide +kernel⟩
theorem dg_left {H : Hp} {d c : Addr} {p l : Int} (h : H d = some (.dK (tapeD c p l))) : DGet H d (.str "left") (some (.int l)) := .inl ⟨_, kLeft, .inl h, rfl, (tape_left c p l).symm⟩
theorem dg_place {H : Hp} {d c : Addr} {p l : Int} (h : H d = some (.dK (tapeD c p l))) : DGet H d (.str "place") (some (.int p)) := .inl ⟨_, kPlace, .inl h, rfl, (tape_place c p l).symm⟩
theorem dg_cells {H : Hp} {d c : Addr} {p l : Int} (h : H d = some (.dK (tapeD c p l))) : DGet H d (.str "cells") (some (.ref c)) := .inl ⟨_, kCells, .inl h, rfl, (tape_cells c p l).symm⟩
theorem dp_left {H : Hp} {d c : Addr} {p l q : Int} (h : H d = some (.dK (tapeD c p l))) : DPut H d (.str "left") (.int q) (L2.upd H d (.dK (tapeD c p q))) :=
  .inl ⟨_, kLeft, h, rfl, small1000 (show 3 ≤ 1000 by decide), by rw [tape_put_left]⟩
theorem dp_place {H : Hp} {d c : Addr} {p l q : Int} (h : H d = some (.dK (tapeD c p l))) : DPut H d (.str "place") (.int q) (L2.upd H d (.dK (tapeD c q l))) :=
  .inl ⟨_, kPlace, h, rfl, small1000 (show 3 ≤ 1000 by decide), by rw [tape_put_place]⟩
theorem two_line : (2 : Nat) ≤ sizeLine := by decide
theorem ok_draw {f : Addr} {fd : FuncData} (F : Fun K "_law_draw" "_law_draw" sDraw f fd) (B : Blt mg) : FnOk P w K mg base CX0 1 f fd ["_law_tape", "_law_many"] spDraw := by
  refine F.ok scD (fun vs H Q E h => ?_) (fun cdv A outer s H vs Q E hr h => ?_)
  · obtain ⟨d, m, p, rfl, _⟩ := h
    rfl
  · obtain ⟨d, m, p, rfl, m0, m1, T, p1, k⟩ := h
    have hu := hu_of hr
    obtain ⟨c, ns, l, hd, hc, hne, l0, p0⟩ := T
    have hcd : c ≠ d := (ne_of hd hc (by intro z; cases z)).symm
    obtain ⟨tB, hB, qB⟩ : ∃ tB, PSs (cxOf CX0 P w K mg base nD "_law_draw" (defScope sDraw) f cdv A outer s H E).nox ((defBody sDraw).drop 1) tB ∧ ∀ (v2 v3 v4 : Option V) (p' l' : Int) (H1 : Hp),
        H1 d = some (.dK (tapeD c p' l')) → 0 ≤ l' → 0 ≤ p' → p' ≤ p + 1 → Off H H1 d → tB { nx := fun _ H' => Q .non H', rt := Q } [some (.ref d), some (.int m), v2, v3, v4, none] H1 := by
      refine ⟨_, pss_cons (ps_asg (pe_tup (pa_cons (pe_op op_mod (pe_callTy call_int1 (by rfl) B.int boot_int (pa_cons (pe_dget hu (pv 0) pe_str (fun _ _ => rfl)) pa_nil)) (pv 1)) (pa_cons (pe_op op_fdiv (pe_dget hu (pv 0) pe_str (fun _ _ => rfl)) (pv 1)) pa_nil)))
            (pg_tup rfl (pgs_cons (pg_name (i := 5) scD.nd rfl (.inl rfl)) (pgs_cons (pg_sub (pv 0) pe_str (set_dict hu)) pgs_nil))))
        (pss_one (ps_ret (pv 5))), fun v2 v3 v4 p' l' H1 h1 l1 q0 q1 of => ?_⟩
      refine ⟨_, rfl, d, _, rfl, dg_left h1, .inl ⟨_, rfl, _, rfl, _, _, rfl, rfl, m0, _, rfl, d, _, rfl, dg_left h1, _, rfl, _, _, rfl, rfl, ⟨m0, m1⟩, two_line, fun t ht => ?_⟩⟩
      have htd : d ≠ t := ne_of_none h1 ht
      refine ⟨t, _, rfl, SqT.of upd_same, rfl, _, _, rfl, _, _, rfl, _, rfl, d, _, rfl, dp_left (by rw [upd_ne htd]; exact h1), rfl, _, rfl, ?_⟩
      have o2 : Off H (L2.upd (L2.upd H1 t (.tup [.int (l' % m), .int (l' / m)])) d (.dK (tapeD c p' (l' / m)))) d := (of.new ht _).upd _
      exact k _ p' _ (Int.emod_nonneg _ (by omega)) (Int.emod_lt_of_pos _ m0) ⟨c, ns, l' / m, upd_same, o2 _ _ hc hcd, hne, Int.ediv_nonneg l1 (by omega), q0⟩ q1 o2
    refine ⟨_, pss_cons (ps_if (pt_cmpR op_lt (pe_dget hu (pv 0) pe_str (fun _ _ => rfl)) (pv 1) (nomark _))
        (pss_cons (ps_par (i := 2) (j := 3) rfl scD.nd rfl rfl (by decide) rfl rfl (pa_cons (pe_dget hu (pv 0) pe_str (fun _ _ => rfl)) (pa_cons (pe_callB call_len_seq (by rfl) B.len PySem.boot_len (pa_cons (pe_dget hu (pv 0) pe_str (fun _ _ => rfl)) pa_nil)) pa_nil)) (by rfl))
        (pss_cons (ps_asg (pe_tup (pa_cons (pe_ix ix_list (pe_dget hu (pv 0) pe_str (fun _ _ => rfl)) (pe_op op_mod (pe_callTy call_int1 (by rfl) B.int boot_int (pa_cons (pv 2) pa_nil)) (pv 3)) (fun _ _ => rfl)) (pa_cons (pe_op op_add (pv 2) pe_int) pa_nil)))
            (pg_tup rfl (pgs_cons (pg_name (i := 4) scD.nd rfl (.inl rfl)) (pgs_cons (pg_sub (pv 0) pe_str (set_dict hu)) pgs_nil))))
        (pss_cons (ps_dput hu (pv 0) pe_str (pe_op op_mod (pe_callTy call_int1 (by rfl) B.int boot_int (pa_cons (pe_op op_pow (pe_op op_add (pe_op op_add (pe_op op_mod (pe_callTy call_int1 (by rfl) B.int boot_int (pa_cons (pv 4) pa_nil)) pe_int) (pe_op op_mul pe_int (pv 2))) pe_int) pe_int) pa_nil)) (pe_op op_add (pe_op op_pow pe_int pe_int) pe_int)) rfl)
        (pss_one (ps_if (pw_and (pt_cmpR op_ge (pv 4) (pe_op op_pow pe_int pe_int) (nomark _)) (pw_and1 (pt_cmpR op_lt (pv 2) (pv 3) (nomark _)))).pt
          (pss_one (ps_dput hu (pv 0) pe_str (pe_op op_sub (pv 4) (pe_op op_pow pe_int pe_int)) rfl)) pss_nil))))) pss_nil) hB, ?_⟩
    refine ⟨_, rfl, d, _, rfl, dg_left hd, _, rfl, _, _, rfl, rfl, _, rfl, ite2 (fun _ => ?_) (fun _ => qB _ _ _ p l H hd l0 p0 (by omega) (.refl _ _))⟩
    have hlen : 0 < ns.length := List.length_pos_iff.mpr hne
    have hml : (ns.map V.int).length = ns.length := List.length_map _
    obtain ⟨z, hz⟩ : ∃ z : Int, atI (ns.map V.int) (p % (ns.map V.int).length) = some (.int z) := by
      have h1 : 0 ≤ p % (ns.map V.int).length := Int.emod_nonneg _ (by omega)
      have h2 : p % (ns.map V.int).length < (ns.map V.int).length := Int.emod_lt_of_pos _ (by omega)
      have h3 : (p % (ns.map V.int).length).toNat < ns.length := by omega
      exact ⟨ns[(p % (ns.map V.int).length).toNat], at_of (j := (p % (ns.map V.int).length).toNat) (by omega) (by rw [List.getElem?_map, List.getElem?_eq_getElem h3]; rfl)⟩
    -- place, size; cell, tape['place']
    refine ⟨_, rfl, d, _, rfl, dg_place hd, _, rfl, d, _, rfl, dg_cells hd, c, _, rfl, .inl (SqL.of hc), _, _, rfl, ?_⟩
    refine ⟨_, rfl, d, _, rfl, dg_cells hd, _, rfl, .inl ⟨_, rfl, _, rfl, _, _, rfl, rfl, (by omega), c, _, _, _, rfl, rfl, SqL.of hc, hz, _, rfl, _, _, rfl, rfl, two_line, fun t ht => ?_⟩⟩
    have htd : d ≠ t := ne_of_none hd ht
    refine ⟨t, _, rfl, SqT.of upd_same, rfl, _, _, rfl, _, _, rfl, _, rfl, d, _, rfl, dp_place (by rw [upd_ne htd]; exact hd), rfl, ?_⟩
    -- tape['left']
    have e1 := Int.emod_nonneg z (show (2147483647 : Int) ≠ 0 by decide)
    have e2 := Int.emod_lt_of_pos z (show (0 : Int) < 2147483647 by decide)
    refine ⟨_, rfl, .inl ⟨_, rfl, _, _, rfl, rfl, (by show (0 : Int) < 2147483647; decide), _, rfl, _, _, rfl, rfl, .inl ⟨by decide, by decide⟩, _, _, rfl, rfl, _, _, rfl, rfl, _, _, rfl, rfl, ⟨by decide, by decide, by omega⟩, .inl ⟨_, rfl, _, _, rfl, rfl, ⟨by decide, by decide, by decide⟩, _, _, rfl, rfl, _, _, rfl, rfl, (by show (0 : Int) < 10 ^ (50 : Int).toNat + 151; decide), _, rfl, d, _, rfl, dp_left upd_same, ?_⟩⟩⟩
    rw [upd_upd]
    have l2 : ∀ x : Int, 0 ≤ x % (10 ^ (50 : Int).toNat + 151) := fun x => Int.emod_nonneg _ (by decide)
    have of : ∀ o, Off H (L2.upd (L2.upd H t (.tup [.int z, .int (p + 1)])) d o) d := fun o => ((Off.refl H d).new ht _).upd _
    refine ⟨_, rfl, _, _, rfl, rfl, ⟨by decide, by decide, by decide⟩, _, _, rfl, rfl, _, rfl, ite2 (fun hz18 => ?_) (fun _ => ?_)⟩
    · refine ⟨_, rfl, _, rfl, _, _, rfl, rfl, _, rfl, ite2 (fun _ => ?_) (fun _ => ?_)⟩
      · have hz18 := of_decide_eq_true hz18
        refine ⟨_, rfl, _, _, rfl, rfl, ⟨by decide, by decide, by decide⟩, _, _, rfl, rfl, _, rfl, d, _, rfl, dp_left upd_same, ?_⟩
        rw [upd_upd]
        exact qB _ _ _ (p + 1) _ _ upd_same (by omega) (by omega) (by omega) (of _)
      · exact qB _ _ _ (p + 1) _ _ upd_same (l2 _) (by omega) (by omega) (of _)
    · exact qB _ _ _ (p + 1) _ _ upd_same (l2 _) (by omega) (by omega) (of _)
end
end Ask
namespace Ask
open PySem L2
section
variable {P : Program} {w : World} {K : PySem.W.Frag} {mg : Str → Option Value} {base : Heap}
/-! ### _law_begin -/
def spBegin (K : PySem.W.Frag) : Sp := fun vs H Q _ => ∃ (a : Addr) (ns : List Int), vs = [.ref a] ∧ SqL K H a (ns.map V.int) ∧ ∀ (d : Addr) (H' : Hp), H d = none → Tape H' d 0 → Same H H' → Q (.ref d) H'
abbrev nBg : List Str := ["_law_script"]
theorem scBg : FnScope nBg ["_law_script"] (defScope sBegin) := ⟨rfl, rfl, rfl, by decide +kernel, rfl, by decide +kernel, by decide +kernel⟩
theorem merge_tape (c : Addr) (p l : Int) : mergeK [] (tapeD c p l) = tapeD c p l := by
  have e1 : putK ([] : List (Key × V)) kCells (.ref c) = [(kCells, .ref c)] := putK_new _ rfl
  have e2 : putK [(kCells, V.ref c)] kPlace (.int p) = [(kCells, .ref c), (kPlace, .int p)] := putK_new _ (by rw [valV_neg ne_cp, valV_nil])
  have e3 : putK [(kCells, V.ref c), (kPlace, V.int p)] kLeft (.int l) = tapeD c p l := putK_new _ (by rw [valV_neg ne_cl, valV_neg ne_pl, valV_nil])
  show putK (putK (putK ([] : List (Key × V)) kCells (.ref c)) kPlace (.int p)) kLeft (.int l) = _
  rw [e1, e2, e3]
theorem cut_ints (ns : List Int) (lo hi : Option Int) : ∃ ms : List Int, cutV (ns.map V.int) lo hi = ms.map V.int := by
  unfold cutV
  exact ⟨(ns.drop _).take _, by rw [List.map_take, List.map_drop]⟩
theorem ok_begin {f : Addr} {fd : FuncData} (F : Fun K "_law_begin" "_law_begin" sBegin f fd) : FnOk P w K mg base CX0 1 f fd ["_law_script"] (spBegin K) := by
  refine F.ok scBg (fun vs H Q E h => ?_) (fun cdv A outer s H vs Q E hr h => ?_)
  · obtain ⟨a, ns, rfl, _⟩ := h
    rfl
  · obtain ⟨a, ns, rfl, hs, k⟩ := h
    refine ⟨_, pss_one (ps_ret (pe_disp (pps_cons pe_str (pe_orT (pe_slice sl_list (pv 0) po_none (po_some pe_int)) (pe_one (pe_lst (pa_cons pe_int pa_nil)))) (pps_cons pe_str pe_int (pps_cons pe_str pe_int pps_nil))) rfl rfl (by intro z; cases z) (by decide))), ?_⟩
    intro d hd
    have s1 : Same H (L2.upd H d (.dK [])) := fun b o e => by rw [upd_ne (ne_of_none e hd)]; exact e
    refine ⟨_, rfl, _, rfl, a, _, rfl, s1.seq hs, fun c hc => ?_⟩
    obtain ⟨ms, em⟩ := cut_ints ns none (some 63)
    have ncd : d ≠ c := ne_of_none upd_same hc
    have s2 : ∀ o, Same H (L2.upd (L2.upd H d (.dK [])) c o) := fun o b u e => by rw [upd_ne (ne_of_none (s1 _ _ e) hc)]; exact s1 _ _ e
    have fin : ∀ (c : Addr) (ms : List Int) (H1 : Hp), ms ≠ [] → Same H H1 → H1 d = some (.dK []) → H1 c = some (.lst (ms.map V.int)) → c ≠ d → Q (.ref d) (L2.upd H1 d (.dK (mergeK [] (tapeD c 0 0)))) := fun c ms H1 hm hs1 h1 h2 hn => by
      rw [merge_tape]
      refine k d _ hd ⟨c, ms, 0, upd_same, by rw [upd_ne hn]; exact h2, hm, by omega, by omega⟩ fun b u e => ?_
      rw [upd_ne (ne_of_none e hd)]
      exact hs1 _ _ e
    rw [em]
    refine ⟨!(ms.map V.int).isEmpty, .inl ⟨_, SqL.of upd_same, rfl⟩, ?_⟩
    cases ms with
    | nil =>
      refine iteF ⟨by show 1 ≤ sizeLine; decide, fun c2 hc2 => ?_⟩
      have n2 : d ≠ c2 := ne_of_none (by rw [upd_ne ncd]; exact upd_same) hc2
      refine ⟨by rw [upd_ne n2, upd_ne ncd]; exact upd_same, tapeD c2 0 0, rfl, by show 3 ≤ 15; decide, ?_⟩
      exact fin c2 [0] _ (by intro z; cases z) (fun b u e => by rw [upd_ne (ne_of_none (s2 _ _ _ e) hc2)]; exact s2 _ _ _ e) (by rw [upd_ne n2, upd_ne ncd]; exact upd_same) upd_same n2.symm
    | cons m ms =>
      refine iteT ?_
      refine ⟨by rw [upd_ne ncd]; exact upd_same, tapeD c 0 0, rfl, by show 3 ≤ 15; decide, ?_⟩
      exact fin c (m :: ms) _ (by intro z; cases z) (s2 _) (by rw [upd_ne ncd]; exact upd_same) upd_same ncd.symm
/-! ### _law_pick -/
/-- v is a list, a tuple or a text with the items xs -/
def Seq3 (K : PySem.W.Frag) (H : Hp) (v : V) (xs : List V) : Prop :=
  (∃ a, v = .ref a ∧ SqL K H a xs) ∨ (∃ a, v = .ref a ∧ SqT K H a xs) ∨ ∃ z : Str, v = .str z ∧ z.length ≤ sizeLine ∧ xs = z.cps.toList.map fun c => V.str ⟨#[c]⟩
theorem Off.seqL {H H' : Hp} {d a : Addr} {kvs : List (Key × V)} {xs : List V} (o : Off H H' d) (hd : H d = some (.dK kvs)) (h : SqL K H a xs) : SqL K H' a xs := by
  rcases h with (h | ⟨u, h⟩) | h
  · exact .inl (.inl (o _ _ h (ne_of h hd (by intro z; cases z))))
  · exact .inl (.inr ⟨u, o _ _ h (ne_of h hd (by intro z; cases z))⟩)
  · exact .inr h
theorem Off.seqT {H H' : Hp} {d a : Addr} {kvs : List (Key × V)} {xs : List V} (o : Off H H' d) (hd : H d = some (.dK kvs)) (h : SqT K H a xs) : SqT K H' a xs := by
  rcases h with (h | ⟨u, h⟩) | h
  · exact .inl (.inl (o _ _ h (ne_of h hd (by intro z; cases z))))
  · exact .inl (.inr ⟨u, o _ _ h (ne_of h hd (by intro z; cases z))⟩)
  · exact .inr h
theorem Seq3.off {H H' : Hp} {d : Addr} {kvs : List (Key × V)} {v : V} {xs : List V} (h : Seq3 K H v xs) (o : Off H H' d) (hd : H d = some (.dK kvs)) : Seq3 K H' v xs := by
  rcases h with ⟨a, e, h⟩ | ⟨a, e, h⟩ | h
  · exact .inl ⟨a, e, o.seqL hd h⟩
  · exact .inr (.inl ⟨a, e, o.seqT hd h⟩)
  · exact .inr (.inr h)
theorem Seq3.len {H : Hp} {v : V} {xs : List V} (h : Seq3 K H v xs) : LenV K v H xs.length := by
  rcases h with ⟨a, rfl, h⟩ | ⟨a, rfl, h⟩ | ⟨z, rfl, hz, rfl⟩
  · exact .inl ⟨xs, h, rfl⟩
  · exact .inr ⟨xs, h, rfl⟩
  · exact ⟨hz, by rw [List.length_map]; rfl⟩
theorem atI_map {α β : Type} (g : α → β) (l : List α) (i : Int) : atI (l.map g) i = (atI l i).map g := by
  unfold atI
  rw [List.length_map]
  cases ixN l.length i with
  | none => rfl
  | some j => simp
theorem Seq3.ix {H : Hp} {v y : V} {xs : List V} {i : Int} {Q : VK} (h : Seq3 K H v xs) (e : atI xs i = some y) (q : Q y H) : rIx K v (.int i) H Q := by
  rcases h with ⟨a, rfl, h⟩ | ⟨a, rfl, h⟩ | ⟨z, rfl, hz, rfl⟩
  · exact .inl ⟨a, xs, i, y, rfl, rfl, h, e, q⟩
  · exact .inr (.inl ⟨a, xs, i, y, rfl, rfl, h, e, q⟩)
  · rw [atI_map] at e
    obtain ⟨c, e1, rfl⟩ := Option.map_eq_some_iff.mp e
    exact .inr (.inr ⟨z, i, c, rfl, rfl, hz, e1, q⟩)
def spPick (K : PySem.W.Frag) : Sp := fun vs H Q _ => ∃ (d : Addr) (v : V) (xs : List V) (p : Int), vs = [.ref d, v] ∧ Tape H d p ∧ p < 1000000000 ∧ Seq3 K H v xs ∧ xs ≠ [] ∧ xs.length < 1073741824 ∧
  ∀ (x : V) (p' : Int) (H' : Hp), x ∈ xs → Tape H' d p' → p' ≤ p + 1 → Off H H' d → Q x H'
abbrev nPk : List Str := ["_law_tape", "_law_items"]
theorem scPk : FnScope nPk ["_law_tape", "_law_items"] (defScope sPick) := ⟨rfl, rfl, rfl, by decide +kernel, rfl, by decide +kernel, by decide +kernel⟩
theorem ok_pick {f : Addr} {fd : FuncData} (F : Fun K "_law_pick" "_law_pick" sPick f fd) (B : Blt mg) (DD : Dn P w K mg base 1 "_law_draw" ["_law_tape", "_law_many"] spDraw) : FnOk P w K mg base CX0 2 f fd ["_law_tape", "_law_items"] (spPick K) := by
  refine F.ok scPk (fun vs H Q E h => ?_) (fun cdv A outer s H vs Q E hr h => ?_)
  · obtain ⟨d, v, xs, p, rfl, _⟩ := h
    rfl
  · obtain ⟨d, v, xs, p, rfl, T, p1, S, hne, hl, k⟩ := h
    have hlen : 0 < xs.length := List.length_pos_iff.mpr hne
    refine ⟨_, pss_one (ps_ret (pe_ix ix_seq (pv 1) (pe_dn DD hr (by rfl) (pa_cons (pv 0) (pa_cons (pe_callB call_len (by rfl) B.len PySem.boot_len (pa_cons (pv 1) pa_nil)) pa_nil))) (fun _ _ => rfl))), ?_⟩
    refine ⟨_, rfl, _, rfl, _, rfl, _, _, rfl, S.len, d, _, p, rfl, by omega, by omega, T, p1, fun n p' H' n0 n1 T' hp o => ?_⟩
    obtain ⟨kvs, hd⟩ := T.at
    have h3 : n.toNat < xs.length := by omega
    exact (S.off o hd).ix (at_of (j := n.toNat) (by omega) (List.getElem?_eq_getElem h3)) (k _ p' H' (List.getElem_mem h3) T' hp o)
end
end Ask
namespace Ask
open PySem L2
/-! ### the mathematics of names -/
def kwL : List Str := (["all", "and", "any", "as", "by", "case", "coalesce", "count", "cross", "desc", "distinct", "else", "end", "except", "exists", "first", "from", "full", "group", "having", "in", "inner", "intersect", "is", "join", "least", "left", "most", "not", "null", "on", "one", "or", "order", "select", "sum", "then", "union", "when", "where"] : List String).map Str.ofString
def lowC (c : Nat) : Bool := decide (97 ≤ c) && decide (c ≤ 122)
def nameB (z : Str) : Bool := decide (1 ≤ z.length) && decide (z.length ≤ 12) && z.cps.toList.all lowC && !decide (z = "self") && !decide (z ∈ kwL)
theorem inV_strs (z : Str) (l : List Str) : inV (.str z) (l.map V.str) = decide (z ∈ l) := by
  unfold inV
  rw [List.any_map]
  induction l with
  | nil => simp
  | cons y r ih =>
    rw [List.any_cons, ih]
    show (decide (y = z) || _) = _
    by_cases e : y = z
    · subst e; simp
    · have e' : ¬ z = y := fun q => e q.symm
      simp [e, e']
theorem flat_strs (l : List Str) : (l.map V.str).all flatV = true := by
  rw [List.all_map]; simp [flatV, Function.comp_def]
theorem one_lt (a b : Nat) : decide (([a] : List Nat) < [b]) = decide (a < b) := by
  have : (([a] : List Nat) < [b]) ↔ a < b := by simp [List.cons_lt_cons_iff]
  simp [this]
theorem low_chain (c : Nat) : (!decide ((⟨#[c]⟩ : Str).cps.toList < ("a" : Str).cps.toList)) = decide (97 ≤ c) := by
  have e : ("a" : Str).cps.toList = [97] := by decide +kernel
  rw [e]
  show (!decide (([c] : List Nat) < [97])) = _
  rw [one_lt]
  by_cases h : c < 97 <;> simp [h] <;> omega
theorem high_chain (c : Nat) : (!decide (("z" : Str).cps.toList < (⟨#[c]⟩ : Str).cps.toList)) = decide (c ≤ 122) := by
  have e : ("z" : Str).cps.toList = [122] := by decide +kernel
  rw [e]
  show (!decide (([122] : List Nat) < [c])) = _
  rw [one_lt]
  by_cases h : 122 < c <;> simp [h] <;> omega

section
variable {P : Program} {w : World} {K : PySem.W.Frag} {mg : Str → Option Value} {base : Heap}
/-- not a text -/
def NoStr (K : PySem.W.Frag) (H : Hp) (v : V) : Prop := ∃ t : String, TyX K H v (.type t) ∧ kitB t "str" = some false
def spText (K : PySem.W.Frag) (g : Str → Bool) : Sp := fun vs H Q _ => ∃ v, vs = [v] ∧
  ((∃ z : Str, v = .str z ∧ z.length ≤ 1000 ∧ PyData.strOk z = true ∧ ∀ H', Same H H' → Q (.bl (g z)) H') ∨ (NoStr K H v ∧ ∀ H', Same H H' → Q (.bl false) H'))
abbrev nNm : List Str := ["thing", "letter"]
theorem scNm : FnScope nNm ["thing"] (defScope sIsName) := ⟨rfl, rfl, rfl, by decide +kernel, rfl, by decide +kernel, by decide +kernel⟩
theorem boot_str : bootBuiltins ("str" : Str) = some (.type "str") := by decide +kernel
theorem boot_isi : bootBuiltins ("isinstance" : Str) = some (.builtin "isinstance") := by decide +kernel
theorem boot_all : bootBuiltins ("all" : Str) = some (.builtin "all") := by decide +kernel
theorem boot_repr : bootBuiltins ("repr" : Str) = some (.builtin "repr") := by decide +kernel
/-- the module's own constants -/
structure Cst (K : PySem.W.Frag) (mg : Str → Option Value) : Prop where
  most : ∃ t, mg "MOST_LETTERS" = some (.int 12 t)
  kws : ∃ a, mg "KEYWORDS" = some (.ref a) ∧ ∀ H, SqT K H a (kwL.map V.str)
theorem line1000 {n : Nat} (h : n ≤ 1000) : n ≤ sizeLine := Nat.le_of_lt (small1000 h)
theorem ok_name {f : Addr} {fd : FuncData} (F : Fun K "is_name" "is_name" sIsName f fd) (B : Blt mg) (C : Cst K mg) : FnOk P w K mg base CX0 1 f fd ["thing"] (spText K nameB) := by
  obtain ⟨tk, hmost⟩ := C.most
  obtain ⟨kw, hkw, skw⟩ := C.kws
  refine F.ok scNm (fun vs H Q E h => ?_) (fun cdv A outer s H vs Q E hr h => ?_)
  · obtain ⟨v, rfl, _⟩ := h
    rfl
  · obtain ⟨v, rfl, h⟩ := h
    refine ⟨_, pss_cons (ps_if (pw_or (pt_not (pt_val (pe_callB call_isi (by rfl) B.isi boot_isi (pa_cons (pv 0) (pa_cons (pe_bltn (v := .ty "str") (by rfl) B.str boot_str rfl) pa_nil)))))
          (pw_or1 (pt_not (pt_chain op_le op_le pe_int (pe_callB call_len (by rfl) B.len PySem.boot_len (pa_cons (pv 0) pa_nil)) (pe_glob (v := .int 12) (by rfl) hmost ⟨_, rfl⟩))))).pt (pss_one (ps_ret pe_bl)) pss_nil)
      (pss_cons (ps_if (pt_not (pt_val (pe_callB (cr_all rfl) (by rfl) B.all boot_all (pa_cons (pe_lc (own := [("letter", 1)]) (g := gName 1) (tt := tYes) rfl scNm.nd (pi_str (pv 0)) (blkOk_by (N := nNm) (sc := defScope sIsName) (by decide +kernel))
            (fun _ _ _ _ _ => pg_name (i := 1) scNm.nd rfl (Or.inl rfl)) (fun _ _ _ _ _ => pts_nil) (fun _ _ _ _ _ => pe_chain op_le_str op_le_str pe_str (pv 1) pe_str)) pa_nil)))) (pss_one (ps_ret pe_bl)) pss_nil)
      (pss_one (ps_ret (pe_and (pe_cmpR op_ne (pv 0) pe_str (nomark _)) (pe_one (pe_cmpR op_notIn_seq (pv 0) (pe_glob (v := .ref kw) (by rfl) hkw rfl) (by with_unfolding_all rfl))))))), ?_⟩
    rcases h with ⟨z, rfl, hz, hok, k⟩ | ⟨⟨t, ht, hk⟩, k⟩
    · refine ⟨_, rfl, .str z, .ty "str", .type "str", .type "str", true, rfl, .ty _, .base (.str z), kit_ty (by decide +kernel), _, rfl, ?_⟩
      refine iteF ⟨_, rfl, .str z, _, rfl, ⟨line1000 hz, rfl⟩, _, _, rfl, rfl, _, rfl, ?_⟩
      refine ite2 (fun h1 => ?_) (fun h1 => ?_)
      · refine ⟨_, _, rfl, rfl, _, rfl, ?_⟩
        have h1 := of_decide_eq_true h1
        by_cases h2 : ((z.length : Int) ≤ 12)
        · rw [decide_eq_true h2]
          refine iteF ⟨_, rfl, z, rfl, fun D hD => ?_⟩
          refine lc_it walk_str (fun i H2 => Same H H2 ∧ H2 D = some (.lst (((z.cps.toList.take i).map lowC).map V.bl))) ⟨fun b o e => by rw [upd_ne (ne_of_none e hD)]; exact e, upd_same⟩ (fun _ _ _ _ => trivial) ?_ ?_
          · rintro i x H2 H3 hi ⟨s2, hD2⟩ ⟨rfl, c, hc, rfl⟩
            have hil : i < z.cps.toList.length := by rw [Array.length_toList]; exact hi
            have step : ∀ b, b = lowC c → ∃ acc, H3 D = some (.lst acc) ∧ acc.length < sizeLine ∧ Same H (L2.upd H3 D (.lst (acc ++ [V.bl b]))) ∧ (L2.upd H3 D (.lst (acc ++ [V.bl b]))) D = some (.lst (((z.cps.toList.take (i + 1)).map lowC).map V.bl)) := by
              rintro b rfl
              refine ⟨_, hD2, ?_, fun p o e => by rw [upd_ne (ne_of_none e hD)]; exact s2 _ _ e, ?_⟩
              · refine small1000 ?_
                rw [List.length_map, List.length_map, List.length_take]
                exact Nat.le_trans (Nat.min_le_left _ _) (Nat.le_of_lt (Nat.lt_of_lt_of_le hi hz))
              · rw [upd_same, List.take_add_one]
                have e : z.cps.toList[i]? = some c := by rw [Array.getElem?_toList]; exact hc
                rw [e]
                simp
            refine ⟨rfl, ?_⟩
            unfold tYes
            refine iteT ?_
            refine ⟨_, rfl, _, _, rfl, rfl, _, rfl, ?_⟩
            rw [low_chain]
            refine ite2 (fun g1 => ?_) (fun g1 => ?_)
            · refine ⟨_, _, rfl, rfl, ?_⟩
              rw [high_chain]
              exact step _ (by unfold lowC; rw [g1, Bool.true_and])
            · exact step _ (by unfold lowC; rw [Bool.eq_false_iff.mpr g1, Bool.false_and])
          · rintro H2 ⟨s2, hD2⟩
            have ez : z.cps.toList.take z.cps.size = z.cps.toList := by rw [← Array.length_toList, List.take_length]
            rw [ez] at hD2
            refine ⟨D, _, rfl, SqL.of hD2, _, rfl, ?_⟩
            have eall : (z.cps.toList.map lowC).all id = z.cps.toList.all lowC := by rw [List.all_map]; rfl
            rw [eall]
            cases ea : z.cps.toList.all lowC with
            | false =>
              refine iteT ?_
              have e : nameB z = false := by unfold nameB; rw [ea]; simp
              rw [← e]
              exact k _ s2
            | true =>
              refine iteF ⟨_, rfl, rfl, _, rfl, ?_⟩
              have en : nameB z = (!decide (z = "self") && !decide (z ∈ kwL)) := by
                unfold nameB
                rw [ea, decide_eq_true (show 1 ≤ z.length by omega), decide_eq_true (show z.length ≤ 12 by omega)]
                simp
              have ev : decide ((V.str z) = V.str "self") = decide (z = "self") := by
                by_cases q : z = "self"
                · rw [q]; simp
                · rw [decide_eq_false q, decide_eq_false (fun t => q (V.str.inj t))]
              rw [ev]
              refine ite2 (fun g1 => ?_) (fun g1 => ?_)
              · refine ⟨_, rfl, kw, _, rfl, .inr (skw _), rfl, flat_strs _, ?_⟩
                rw [inV_strs]
                rw [g1, Bool.true_and] at en
                show Q (.bl (!decide (z ∈ kwL))) H2
                rw [← en]
                exact k _ s2
              · rw [Bool.eq_false_iff.mpr g1, Bool.false_and] at en
                rw [← en]
                exact k _ s2
        · rw [decide_eq_false h2]
          have e : nameB z = false := by unfold nameB; rw [decide_eq_false (show ¬ z.length ≤ 12 by omega)]; simp
          refine iteT ?_
          have q := k H (Same.refl H)
          rw [e] at q
          exact q
      · have h1 : ¬ (1 : Int) ≤ z.length := fun q => h1 (decide_eq_true q)
        have e : nameB z = false := by unfold nameB; rw [decide_eq_false (show ¬ 1 ≤ z.length by omega)]; simp
        refine ⟨_, rfl, iteT ?_⟩
        have q := k H (Same.refl H)
        rw [e] at q
        exact q
    · refine ⟨_, rfl, v, .ty "str", .type t, .type "str", false, rfl, .ty _, ht, kit_ty hk, _, rfl, iteT ?_⟩
      exact k H (Same.refl H)
end
end Ask
namespace Ask
open PySem L2
theorem strs_depth (l : List Str) : PyData.depthAll (l.map PyData.str) = 0 := by
  induction l with
  | nil => rfl
  | cons x r ih => rw [List.map_cons]; simp only [PyData.depthAll, ih]; rfl
theorem strs_lay (l : List Str) (h : ∀ x ∈ l, PyData.strOk x = true) : PyData.canLayAll0 (l.map PyData.str) = true := by
  induction l with
  | nil => rfl
  | cons x r ih => rw [List.map_cons]; simp only [PyData.canLayAll0, PyData.canLay0, ih fun y hy => h y (List.mem_cons_of_mem _ hy), h x List.mem_cons_self, Bool.and_self]
theorem strs_shaped (l : List Str) (h : ∀ x ∈ l, PyData.strOk x = true) : SeqAt.shaped (.list (l.map PyData.str)) = true := by
  unfold SeqAt.shaped
  rw [Bool.and_eq_true]
  refine ⟨by simp only [PyData.canLay0, strs_lay l h], decide_eq_true ?_⟩
  simp only [PyData.depth, strs_depth]
  omega
theorem sign_ok {z : Str} (h : PyData.strOk z = true) {c : Nat} (hc : c ∈ z.cps.toList) : PyData.strOk ⟨#[c]⟩ = true := by
  unfold PyData.strOk at h ⊢
  rw [← Array.all_toList, List.all_eq_true] at h
  have := h c hc
  simpa using this
theorem strs_nil (l : List Str) : PyData.eqv (.list (l.map PyData.str)) (.list []) = l.isEmpty := by
  cases l with
  | nil => simp [PyData.eqv, PyData.eqvAll]
  | cons a r => simp [PyData.eqv, PyData.eqvAll]
theorem dp_strs {K : PySem.W.Frag} {H : Hp} (l : List Str) : DpAll K H (l.map V.str) (l.map PyData.str) := by
  induction l with
  | nil => exact .nil
  | cons x r ih => exact .cons (.str x) ih
theorem abc_cps : ("abcdefghijklmnopqrstuvwxyz" : Str).cps.toList = (List.range 26).map (· + 97) := by decide +kernel
theorem abc_mem (c : Nat) : decide (c ∈ ("abcdefghijklmnopqrstuvwxyz" : Str).cps.toList) = lowC c := by
  rw [abc_cps]
  unfold lowC
  rw [← Bool.decide_and]
  refine decide_eq_decide.mpr ?_
  simp only [List.mem_map, List.mem_range]
  constructor
  · rintro ⟨a, h, rfl⟩; omega
  · intro h; exact ⟨c - 97, by omega, by omega⟩
theorem name_due (z : Str) : nameB z = (decide (1 ≤ z.length) && decide (z.length ≤ 12) && !decide (z ∈ kwL ++ (["self"] : List Str)) && (z.cps.toList.filter fun c => !lowC c).isEmpty) := by
  unfold nameB
  have e1 : decide (z ∈ kwL ++ (["self"] : List Str)) = (decide (z ∈ kwL) || decide (z = "self")) := by
    rw [← Bool.decide_or]
    refine decide_eq_decide.mpr ?_
    rw [List.mem_append, List.mem_singleton]
  have e2 : (z.cps.toList.filter fun c => !lowC c).isEmpty = z.cps.toList.all lowC := by
    induction z.cps.toList with
    | nil => rfl
    | cons a r ih =>
      rw [List.filter_cons, List.all_cons]
      cases h : lowC a with
      | true => simpa using ih
      | false => simp
  rw [e1, e2]
  cases decide (1 ≤ z.length) <;> cases decide (z.length ≤ 12) <;> cases z.cps.toList.all lowC <;> cases decide (z = "self") <;> cases decide (z ∈ kwL) <;> rfl

section
variable {P : Program} {w : World} {K : PySem.W.Frag} {mg : Str → Option Value} {base : Heap}
/-! ### _law_keywords -/
def spKeys : Sp := fun vs H Q _ => vs = [] ∧ ∀ p, H p = none → Q (.ref p) (L2.upd H p (.lst (kwL.map V.str)))
abbrev nKy : List Str := ["_law_some"]
theorem scKy : FnScope nKy [] (defScope sKeys) := ⟨rfl, rfl, rfl, by decide +kernel, rfl, by decide +kernel, by decide +kernel⟩
theorem kw_split : Txt.split ((("all and any as by case coalesce count cross desc distinct else end except exists first from full group" : Str) ++ (" having in inner intersect is join least left most not null on one or order select sum" : Str)) ++ (" then union when where" : Str)) (" " : Str) = kwL := by decide +kernel
theorem ok_keys {f : Addr} {fd : FuncData} (F : Fun K "_law_keywords" "_law_keywords" sKeys f fd) : FnOk P w K mg base CX0 1 f fd [] spKeys := by
  refine F.ok scKy (fun vs H Q E h => ?_) (fun cdv A outer s H vs Q E hr h => ?_)
  · obtain ⟨rfl, _⟩ := h
    rfl
  · obtain ⟨rfl, k⟩ := h
    refine ⟨_, pss_cons (ps_set (i := 0) scKy.nd rfl (Or.inl rfl) pe_str) (pss_cons (ps_set (i := 0) scKy.nd rfl (Or.inl rfl) (pe_op op_add_str (pv 0) pe_str)) (pss_one (ps_ret (pe_split (pe_op op_add_str (pv 0) pe_str) pe_str)))), ?_⟩
    refine ⟨_, rfl, _, _, rfl, rfl, by decide +kernel, _, rfl, _, _, rfl, rfl, by decide +kernel, ⟨_, rfl⟩, _, _, rfl, rfl, by decide +kernel, by decide +kernel, fun p hp => ?_⟩
    rw [kw_split]
    exact k p hp
/-! ### _law_due -/
abbrev nDu : List Str := ["_law_thing", "_law_sign"]
theorem scDu : FnScope nDu ["_law_thing"] (defScope sDue) := ⟨rfl, rfl, rfl, by decide +kernel, rfl, by decide +kernel, by decide +kernel⟩
theorem ok_due {f : Addr} {fd : FuncData} (F : Fun K "_law_due" "_law_due" sDue f fd) (B : Blt mg) (DK : Dn P w K mg base 1 "_law_keywords" [] spKeys) : FnOk P w K mg base CX0 2 f fd ["_law_thing"] (spText K nameB) := by
  refine F.ok scDu (fun vs H Q E h => ?_) (fun cdv A outer s H vs Q E hr h => ?_)
  · obtain ⟨v, rfl, _⟩ := h
    rfl
  · obtain ⟨v, rfl, h⟩ := h
    refine ⟨_, pss_cons (ps_if (pw_or (pt_not (pt_val (pe_callB call_isi (by rfl) B.isi boot_isi (pa_cons (pv 0) (pa_cons (pe_bltn (v := .ty "str") (by rfl) B.str boot_str rfl) pa_nil)))))
          (pw_or (pt_not (pt_chain op_le op_le pe_int (pe_callB call_len (by rfl) B.len PySem.boot_len (pa_cons (pv 0) pa_nil)) pe_int))
            (pw_or1 (pt_cmpR op_in_seq (pv 0) (pe_op op_cat (pe_dn0 DK hr (by rfl)) (pe_lst (pa_cons pe_str pa_nil))) (by with_unfolding_all rfl))))).pt (pss_one (ps_ret pe_bl)) pss_nil)
      (pss_one (ps_ret (pe_cmpR (op_eqD hr.units) (pe_lc (own := [("_law_sign", 1)]) (g := gName 1) rfl scDu.nd (pi_str (pv 0)) (blkOk_by (N := nDu) (sc := defScope sDue) (by decide +kernel))
            (fun _ _ _ _ _ => pg_name (i := 1) scDu.nd rfl (Or.inl rfl)) (fun _ _ _ _ _ => pts_one (pt_cmpR op_notIn_sign (pv 1) pe_str (by with_unfolding_all rfl))) (fun _ _ _ _ _ => pv 1)) (pe_lst pa_nil) (nomark _)))), ?_⟩
    rcases h with ⟨z, rfl, hz, hok, k⟩ | ⟨⟨t, ht, hk⟩, k⟩
    · refine ⟨_, rfl, .str z, .ty "str", .type "str", .type "str", true, rfl, .ty _, .base (.str z), kit_ty (by decide +kernel), _, rfl, ?_⟩
      have k0 : nameB z = false → Q (.bl false) H := fun e => by
        have q := k H (Same.refl H)
        rw [e] at q
        exact q
      refine iteF ⟨_, rfl, .str z, _, rfl, ⟨line1000 hz, rfl⟩, _, _, rfl, rfl, _, rfl, ?_⟩
      refine ite2 (fun h1 => ?_) (fun h1 => ?_)
      · refine ⟨_, _, rfl, rfl, _, rfl, ?_⟩
        have h1 := of_decide_eq_true h1
        by_cases h2 : ((z.length : Int) ≤ 12)
        · rw [decide_eq_true h2]
          refine iteF ⟨_, rfl, rfl, fun p hp => ⟨by show 1 ≤ sizeLine; decide, fun q hq => ?_⟩⟩
          have nqp : p ≠ q := ne_of_none upd_same hq
          refine ⟨p, q, _, _, rfl, rfl, by rw [upd_ne nqp]; exact upd_same, upd_same, by show (kwL.map V.str).length + 1 ≤ sizeLine; decide +kernel, fun r hr2 => ?_⟩
          have e1 : kwL.map V.str ++ [V.str "self"] = (kwL ++ (["self"] : List Str)).map V.str := by rw [List.map_append]; rfl
          rw [e1]
          refine ⟨r, _, rfl, .inl (SqL.of upd_same), rfl, flat_strs _, _, rfl, ?_⟩
          rw [inV_strs]
          have s3 : Same H (L2.upd (L2.upd (L2.upd H p (.lst (kwL.map V.str))) q (.lst [.str "self"])) r (.lst ((kwL ++ (["self"] : List Str)).map V.str))) := fun b o e => by
            have e2 := e
            rw [upd_ne (ne_of_none (by rw [upd_ne (ne_of_none (by rw [upd_ne (ne_of_none e hp)]; exact e) hq), upd_ne (ne_of_none e hp)]; exact e) hr2), upd_ne (ne_of_none (by rw [upd_ne (ne_of_none e hp)]; exact e) hq), upd_ne (ne_of_none e hp)]
            exact e
          have en := name_due z
          rw [decide_eq_true (show 1 ≤ z.length by omega), decide_eq_true (show z.length ≤ 12 by omega)] at en
          refine ite2 (fun h3 => ?_) (fun h3 => ?_)
          · have h3 : decide (z ∈ kwL ++ (["self"] : List Str)) = true := h3
            rw [h3] at en
            have q := k _ s3
            rw [en] at q
            exact q
          · have h3 : decide (z ∈ kwL ++ (["self"] : List Str)) = false := Bool.eq_false_iff.mpr h3
            rw [h3] at en
            refine ⟨_, rfl, z, rfl, fun D hD => ?_⟩
            refine lc_it walk_str (fun i H2 => Same H H2 ∧ H2 D = some (.lst ((((z.cps.toList.take i).filter fun c => !lowC c).map fun c => (⟨#[c]⟩ : Str)).map V.str))) ⟨fun b o e => by rw [upd_ne (ne_of_none (s3 _ _ e) hD)]; exact s3 _ _ e, upd_same⟩ (fun _ _ _ _ => trivial) ?_ ?_
            · rintro i x H2 H3 hi ⟨s2, hD2⟩ ⟨rfl, c, hc, rfl⟩
              have e : z.cps.toList[i]? = some c := by rw [Array.getElem?_toList]; exact hc
              refine ⟨rfl, _, rfl, _, _, rfl, rfl, _, rfl, ?_⟩
              rw [abc_mem]
              refine ite2 (fun g => ?_) (fun g => ?_)
              · refine ⟨_, rfl, _, hD2, ?_, fun p o e => by rw [upd_ne (ne_of_none (s3 _ _ e) hD)]; exact s2 _ _ e, ?_⟩
                · refine small1000 ?_
                  rw [List.length_map, List.length_map]
                  refine Nat.le_trans (List.length_filter_le _ _) ?_
                  rw [List.length_take]
                  exact Nat.le_trans (Nat.min_le_left _ _) (Nat.le_of_lt (Nat.lt_of_lt_of_le hi hz))
                · rw [upd_same, List.take_add_one, e, List.filter_append]
                  simp [g]
              · refine ⟨s2, ?_⟩
                rw [hD2, List.take_add_one, e, List.filter_append]
                simp [g]
            · rintro H2 ⟨s2, hD2⟩
              have ez : z.cps.toList.take z.cps.size = z.cps.toList := by rw [← Array.length_toList, List.take_length]
              rw [ez] at hD2
              refine ⟨by decide, fun q2 hq2 => ?_⟩
              have nDq : D ≠ q2 := ne_of_none hD2 hq2
              refine ⟨_, _, .lst (SqL.of (by rw [upd_ne nDq]; exact hD2)) (dp_strs _), .lst (SqL.of upd_same) .nil, strs_shaped _ (fun x hx => by obtain ⟨c, hc, rfl⟩ := List.mem_map.mp hx; exact sign_ok hok (List.mem_filter.mp hc).1), strs_shaped [] (fun _ hx => (List.not_mem_nil hx).elim), ?_⟩
              have e3 := strs_nil ((z.cps.toList.filter fun c => !lowC c).map fun c => (⟨#[c]⟩ : Str))
              rw [e3, List.isEmpty_map]
              simp only [Bool.true_and, Bool.not_false] at en
              rw [← en]
              exact k _ fun b o e => by rw [upd_ne (ne_of_none (s2 _ _ e) hq2)]; exact s2 _ _ e
        · rw [decide_eq_false h2]
          refine iteT (k0 ?_)
          rw [name_due, decide_eq_false (show ¬ z.length ≤ 12 by omega)]
          simp
      · have h1 : ¬ (1 : Int) ≤ z.length := fun q => h1 (decide_eq_true q)
        refine ⟨_, rfl, iteT (k0 ?_)⟩
        rw [name_due, decide_eq_false (show ¬ 1 ≤ z.length by omega)]
        simp
    · refine ⟨_, rfl, v, .ty "str", .type t, .type "str", false, rfl, .ty _, ht, kit_ty hk, _, rfl, iteT ?_⟩
      exact k H (Same.refl H)
end
end Ask
namespace Ask
open PySem L2
section
variable {X : Cx}
theorem call_repr_bool : CallR X (.builtin "repr") (fun xs H Q => ∃ b, xs = [.bl b] ∧ Q (.str (if b then ("True" : String) else ("False" : String))) H) := by
  intro pins s σ H xs us Q I r h
  obtain ⟨b, rfl, q⟩ := h
  obtain ⟨u, rfl, ru⟩ := vals1 r
  cases ru
  refine PySem.P.repr_of_bool ?_
  cases b <;> exact ⟨.str _, H, I.tok _, ⟨_, rfl⟩, q⟩
def repS (i : Str) (n : Int) : Str := ⟨(List.replicate n.toNat i.cps).foldl (· ++ ·) #[]⟩
theorem op_rep_str : OpR X (binaryOp .Mult) (fun x y H Q => ∃ (i : Str) (n : Int), x = .str i ∧ y = .int n ∧ (decide (n < -(2 ^ 63 : Int)) || decide (n ≥ 2 ^ 63)) = false ∧ ¬ ((i.length : Int) > (2 ^ 63 - 1) / n) ∧ Builtin.Str.tooLong (i.length * n.toNat) = false ∧ ¬ n < 1 ∧ (n == 1 || i.length == 0) = false ∧
    (repS i n).length ≤ sizeLine ∧ Q (.str (repS i n)) H) := by
  intro pins s σ H x y v u Q I rx ry h
  obtain ⟨i, n, rfl, rfl, h1, h2, h3, h4, h5, h6, q⟩ := h
  obtain ⟨t, rfl⟩ := rx
  obtain ⟨t', rfl⟩ := ry
  refine PySem.P.mul_str h1 (fun _ _ => h2) (fun _ _ => h3) ?_
  rw [if_neg h4, if_neg (by rw [h5]; exact Bool.false_ne_true)]
  exact ⟨h6, ⟨.str _, H, I.tok _, ⟨_, rfl⟩, q⟩⟩
end
/-! ### odd values -/
def NoS (H : Hp) : V → Prop
  | .non => True
  | .bl _ => True
  | .int _ => True
  | .ref a => (∃ xs, H a = some (.lst xs)) ∨ (∃ xs, H a = some (.tup xs)) ∨ ∃ kvs : List (Key × V), H a = some (.dK kvs)
  | _ => False
theorem NoS.no {K : PySem.W.Frag} {H : Hp} {x : V} (h : NoS H x) : NoStr K H x := by
  cases x with
  | non => exact ⟨"NoneType", .base .non, by decide +kernel⟩
  | bl b => exact ⟨"bool", .base (.bl b), by decide +kernel⟩
  | int i => exact ⟨"int", .base (.int i), by decide +kernel⟩
  | ref a =>
    rcases h with ⟨xs, h⟩ | ⟨xs, h⟩ | ⟨kvs, h⟩
    · exact ⟨"list", .base (.lst h), by decide +kernel⟩
    · exact ⟨"tuple", .base (.tup h), by decide +kernel⟩
    · exact ⟨"dict", .base (.dK h), by decide +kernel⟩
  | str _ => exact h.elim
  | byt _ => exact h.elim
  | flt _ => exact h.elim
  | ty _ => exact h.elim
theorem NoS.mono {H H' : Hp} {x : V} (h : NoS H x) (s : ∀ a o, x = .ref a → H a = some o → H' a = some o) : NoS H' x := by
  cases x with
  | ref a =>
    rcases h with ⟨xs, h⟩ | ⟨xs, h⟩ | ⟨kvs, h⟩
    · exact .inl ⟨xs, s a _ rfl h⟩
    · exact .inr (.inl ⟨xs, s a _ rfl h⟩)
    · exact .inr (.inr ⟨kvs, s a _ rfl h⟩)
  | non => trivial
  | bl b => trivial
  | int i => trivial
  | str _ => exact h.elim
  | byt _ => exact h.elim
  | flt _ => exact h.elim
  | ty _ => exact h.elim
/-- a value that can be handed to is_name: a text, or none -/
def OddV (H : Hp) (x : V) : Prop := (∃ z : Str, x = .str z ∧ z.length ≤ 1000 ∧ PyData.strOk z = true) ∨ NoS H x
theorem OddV.mono {H H' : Hp} {x : V} (h : OddV H x) (s : ∀ a o, x = .ref a → H a = some o → H' a = some o) : OddV H' x := h.elim .inl fun h => .inr (h.mono s)
/-- x is odd at H', and new since H -/
structure Gd (H H' : Hp) (x : V) : Prop where
  odd : OddV H' x
  new : ∀ a, x = .ref a → H a = none
theorem Gd.later {H H1 H2 : Hp} {x : V} (g : Gd H H1 x) (s : Same H1 H2) : Gd H H2 x := ⟨g.odd.mono fun _ _ _ => s _ _, g.new⟩
theorem Gd.since {H H1 H2 : Hp} {x : V} (g : Gd H1 H2 x) (s : Same H H1) : Gd H H2 x := ⟨g.odd, fun a e => s.free (g.new a e)⟩
def GE (te : TE) : Prop := ∀ (σ : St) (H : Hp) (Q : VK), (∀ x H', Same H H' → Gd H H' x → Q x H') → te σ H Q
def GA (ta : TA) (n : Nat) : Prop := ∀ (σ : St) (H : Hp) (Q : List V → Hp → Prop), (∀ xs H', Same H H' → xs.length = n → (∀ x ∈ xs, Gd H H' x) → Q xs H') → ta σ H Q
theorem ga_nil : GA tNil 0 := fun σ H Q k => k [] H (Same.refl H) rfl fun _ h => (List.not_mem_nil h).elim
theorem ga_cons {te : TE} {ta : TA} {n : Nat} (h1 : GE te) (h2 : GA ta n) : GA (tCons te ta) (n + 1) := fun σ H Q k =>
  h1 σ H _ fun x H1 s1 g1 => h2 σ H1 _ fun xs H2 s2 e gs => k (x :: xs) H2 (s1.trans s2) (by rw [List.length_cons, e]) fun y hy => by
    rcases List.mem_cons.mp hy with rfl | hy
    · exact g1.later s2
    · exact (gs y hy).since s1
theorem same_new {H : Hp} {p : Addr} (hp : H p = none) (o : HO) : Same H (L2.upd H p o) := fun b u e => by rw [upd_ne (ne_of_none e hp)]; exact e
theorem ge_lst {ta : TA} {n : Nat} (h : GA ta n) (hn : n ≤ 1000) : GE (tLst ta) := fun σ H Q k =>
  h σ H _ fun xs H1 s1 e gs => ⟨by rw [e]; exact line1000 hn, fun p hp => k _ _ (s1.trans (same_new hp _)) ⟨.inr (.inl ⟨xs, upd_same⟩), fun a ea => by cases ea; exact s1.free hp⟩⟩
theorem lst_then {ta : TA} {n : Nat} (h : GA ta n) (hn : n ≤ 1000) (σ : St) (H : Hp) (Q : VK) (k : ∀ xs H1 l, Same H H1 → xs.length = n → (∀ x ∈ xs, Gd H H1 x) → H1 l = none → Q (.ref l) (L2.upd H1 l (.lst xs))) : tLst ta σ H Q :=
  h σ H _ fun xs H1 s1 e gs => ⟨by rw [e]; exact line1000 hn, fun p hp => k xs H1 p s1 e gs hp⟩
theorem ge_tup {ta : TA} {n : Nat} (h : GA ta n) (hn : n ≤ 1000) : GE (tTup ta) := fun σ H Q k =>
  h σ H _ fun xs H1 s1 e gs => ⟨by rw [e]; exact line1000 hn, fun p hp => k _ _ (s1.trans (same_new hp _)) ⟨.inr (.inr (.inl ⟨xs, upd_same⟩)), fun a ea => by cases ea; exact s1.free hp⟩⟩
theorem ge_tup0 : GE (tTup tNil) := ge_tup ga_nil (by decide)
theorem ge_lst0 : GE (tLst tNil) := ge_lst ga_nil (by decide)
theorem ge_tup1 {a : TE} (h : GE a) : GE (tTup (tCons a tNil)) := ge_tup (ga_cons h ga_nil) (by decide)
theorem ge_lst1 {a : TE} (h : GE a) : GE (tLst (tCons a tNil)) := ge_lst (ga_cons h ga_nil) (by decide)
theorem ge_tup2 {a b : TE} (h : GE a) (h2 : GE b) : GE (tTup (tCons a (tCons b tNil))) := ge_tup (ga_cons h (ga_cons h2 ga_nil)) (by decide)
theorem ge_non : GE (tC .non) := fun σ H Q k => k _ _ (Same.refl H) ⟨.inr trivial, fun _ e => nomatch e⟩
theorem ge_bl (b : Bool) : GE (tC (.bl b)) := fun σ H Q k => k _ _ (Same.refl H) ⟨.inr trivial, fun _ e => nomatch e⟩
theorem ge_int (i : Int) : GE (tC (.int i)) := fun σ H Q k => k _ _ (Same.refl H) ⟨.inr trivial, fun _ e => nomatch e⟩
theorem ge_str (z : Str) (h : (decide (z.length ≤ 1000) && PyData.strOk z) = true) : GE (tC (.str z)) := fun σ H Q k => by
  obtain ⟨h1, h2⟩ := Bool.and_eq_true_iff.mp h
  exact k _ _ (Same.refl H) ⟨.inl ⟨z, rfl, of_decide_eq_true h1, h2⟩, fun _ e => nomatch e⟩
theorem ge_neg (i : Int) : GE (tUn (rU fun i => .int (-i)) (tC (.int i))) := fun σ H Q k => ⟨i, rfl, k _ _ (Same.refl H) ⟨.inr trivial, fun _ e => nomatch e⟩⟩
theorem ge_pow (i j : Int) (h : CPow i j) : GE (tOp (rI CPow fun i j => .int (i ^ j.toNat)) (tC (.int i)) (tC (.int j))) := fun σ H Q k => ⟨i, j, rfl, rfl, h, k _ _ (Same.refl H) ⟨.inr trivial, fun _ e => nomatch e⟩⟩
theorem ge_dict0 : GE tDNewK := fun σ H Q k p hp => k _ _ (same_new hp _) ⟨.inr (.inr (.inr ⟨[], upd_same⟩)), fun a ea => by cases ea; exact hp⟩
theorem ge_dict1 (z : Str) (i : Int) : GE (tDisp [(tC (.str z), tC (.int i))]) := fun σ H Q k p hp => by
  refine ⟨upd_same, [(Sum.inr z, .int i)], rfl, by show 1 ≤ 15; decide, ?_⟩
  rw [upd_upd]
  exact k _ _ (same_new hp _) ⟨.inr (.inr (.inr ⟨_, upd_same⟩)), fun a ea => by cases ea; exact hp⟩

section
variable {P : Program} {w : World} {K : PySem.W.Frag} {mg : Str → Option Value} {base : Heap}
def spOdd : Sp := fun vs H Q _ => ∃ (d : Addr) (p : Int), vs = [.ref d] ∧ Tape H d p ∧ p < 1000000000 ∧ ∀ (x : V) (p' : Int) (H' : Hp), OddV H' x → Tape H' d p' → p' ≤ p + 1 → Off H H' d → Q x H'
abbrev nOd : List Str := ["_law_tape", "_law_some"]
theorem scOd : FnScope nOd ["_law_tape"] (defScope sOdd) := ⟨rfl, rfl, rfl, by decide +kernel, rfl, by decide +kernel, by decide +kernel⟩
theorem ok_odd {f : Addr} {fd : FuncData} (F : Fun K "_law_odd" "_law_odd" sOdd f fd) (DP : Dn P w K mg base 2 "_law_pick" ["_law_tape", "_law_items"] (spPick K)) : FnOk P w K mg base CX0 3 f fd ["_law_tape"] spOdd := by
  refine F.ok scOd (fun vs H Q E h => ?_) (fun cdv A outer s H vs Q E hr h => ?_)
  · obtain ⟨d, p, rfl, _⟩ := h
    rfl
  · obtain ⟨d, p, rfl, T, p1, k⟩ := h
    refine ⟨_, pss_cons (ps_set (i := 1) scOd.nd rfl (Or.inl rfl) (pe_lst (pa_cons pe_non (pa_cons pe_bl (pa_cons pe_bl (pa_cons pe_int (pa_cons pe_int (pa_cons (pe_un un_neg pe_int) (pa_cons (pe_op op_pow pe_int pe_int) (pa_cons pe_str (pa_cons pe_str (pa_cons pe_str
          (pa_cons (pe_tup pa_nil) (pa_cons (pe_lst pa_nil) (pa_cons pe_dnewK (pa_cons (pe_tup (pa_cons pe_str pa_nil)) (pa_cons (pe_lst (pa_cons pe_str pa_nil)) (pa_cons (pe_tup (pa_cons pe_int pa_nil)) (pa_cons (pe_tup (pa_cons pe_int (pa_cons pe_int pa_nil))) (pa_cons (pe_tup (pa_cons pe_int (pa_cons pe_int pa_nil))) (pa_cons (pe_lst (pa_cons pe_int pa_nil)) pa_nil)))))))))))))))))))))
      (pss_one (ps_ret (pe_dn DP hr (by rfl) (pa_cons (pv 0) (pa_cons (pe_op op_cat (pv 1) (pe_lst (pa_cons (pe_tup (pa_cons (pe_tup (pa_cons pe_str pa_nil)) pa_nil)) (pa_cons (pe_disp (pps_cons pe_str pe_int pps_nil) rfl rfl (by intro z; cases z) (by decide)) (pa_cons (pe_tup (pa_cons pe_str (pa_cons pe_int pa_nil)))
          (pa_cons (pe_tup (pa_cons pe_str (pa_cons pe_non pa_nil))) (pa_cons pe_str (pa_cons pe_str (pa_cons (pe_tup (pa_cons pe_bl pa_nil)) (pa_cons (pe_tup (pa_cons pe_int (pa_cons (pe_un un_neg pe_int) pa_nil))) (pa_cons (pe_tup (pa_cons pe_non pa_nil)) pa_nil))))))))))) pa_nil))))), ?_⟩
    unfold tSeq tAsg
    refine lst_then (n := 19) ?h2 (by decide) _ _ _ fun xs1 H1 l1 s1 e1 g1 hl1 => ?_
    case h2 =>
      repeat' first
        | exact ga_nil | exact ge_non | exact ge_bl _ | exact ge_int _ | exact ge_neg _ | exact ge_dict0 | exact ge_dict1 _ _ | exact ge_str _ (by decide +kernel) | exact ge_pow _ _ ⟨by decide, by decide, by decide⟩
        | refine ga_cons ?_ ?_ | exact ge_tup0 | exact ge_lst0 | refine ge_tup1 ?_ | refine ge_lst1 ?_ | refine ge_tup2 ?_ ?_
    refine ⟨_, rfl, _, rfl, lst_then (n := 9) ?h2 (by decide) _ _ _ fun xs2 H2 l2 s2 e2 g2 hl2 => ?_⟩
    case h2 =>
      repeat' first
        | exact ga_nil | exact ge_non | exact ge_bl _ | exact ge_int _ | exact ge_neg _ | exact ge_dict0 | exact ge_dict1 _ _ | exact ge_str _ (by decide +kernel) | exact ge_pow _ _ ⟨by decide, by decide, by decide⟩
        | refine ga_cons ?_ ?_ | exact ge_tup0 | exact ge_lst0 | refine ge_tup1 ?_ | refine ge_lst1 ?_ | refine ge_tup2 ?_ ?_
    have n1 := s2 l1 _ upd_same
    have n12 : l1 ≠ l2 := ne_of_none n1 hl2
    refine ⟨l1, l2, xs1, xs2, rfl, rfl, by rw [upd_ne n12]; exact n1, upd_same, by rw [e1, e2]; decide, fun l hl => ?_⟩
    have t1 := s1.trans ((same_new hl1 _).trans (s2.trans ((same_new hl2 _).trans (same_new hl (.lst (xs1 ++ xs2))))))
    refine ⟨d, _, xs1 ++ xs2, p, rfl, T.same t1, p1, .inl ⟨l, rfl, SqL.of upd_same⟩, ?_, by rw [List.length_append, e1, e2]; decide, fun x p' H' hx T' hp o => ?_⟩
    · intro z
      have := congrArg List.length z
      rw [List.length_append, e1, e2] at this
      cases this
    obtain ⟨kvs, hd⟩ := T.at
    have g : Gd H (L2.upd (L2.upd H2 l2 (.lst xs2)) l (.lst (xs1 ++ xs2))) x := (List.mem_append.mp hx).elim (fun h => (g1 x h).later ((same_new hl1 _).trans (s2.trans ((same_new hl2 _).trans (same_new hl _))))) (fun h => ((g2 x h).later ((same_new hl2 _).trans (same_new hl _))).since (s1.trans (same_new hl1 _)))
    exact k x p' H' (g.odd.mono fun a u e h => o a u h (ne_of_none hd (g.new a e)).symm) T' hp fun b u e nb => o b u (t1 b u e) nb
end
end Ask
namespace Ask
open PySem L2
/-! ### helpers -/
theorem joinL_signs : ∀ cs : List Nat, TL.joinL [] (cs.map fun c => [c]) = cs
  | [] => rfl
  | [c] => rfl
  | c :: e :: r => by
    have ih := joinL_signs (e :: r)
    show [c] ++ ([] ++ TL.joinL [] ((e :: r).map fun c => [c])) = _
    rw [ih]
    rfl
theorem join_signs (cs : List Nat) : (Txt.join ("" : Str) (cs.map fun c => (⟨#[c]⟩ : Str))).cps.toList = cs := by
  have h := TL.tl_join ("" : Str) (cs.map fun c => (⟨#[c]⟩ : Str))
  rw [← TL.join_eq, List.map_map] at h
  exact h.trans (joinL_signs cs)
theorem sum_ones (cs : List Nat) : ((cs.map fun c => (⟨#[c]⟩ : Str)).map (·.length)).sum = cs.length := by
  rw [List.map_map]
  induction cs with
  | nil => rfl
  | cons c r ih => rw [List.map_cons, List.sum_cons, ih, List.length_cons]; show 1 + r.length = _; omega
theorem ok_of {z : Str} {n : Nat} (h1 : z.cps.toList.length ≤ n) (h2 : ∀ c ∈ z.cps.toList, c < 1114112) : z.length ≤ n ∧ PyData.strOk z = true := by
  refine ⟨by rw [Array.length_toList] at h1; exact h1, ?_⟩
  unfold PyData.strOk
  rw [← Array.all_toList, List.all_eq_true]
  exact fun c hc => decide_eq_true (h2 c hc)
theorem sel_str {c : Bool} {i : Nat} {x y : Str} {σ : St} {H : Hp} {Q : VK} (e : σ[i]? = some (some (.str x))) (hl : x.length + y.length ≤ sizeLine) (h : ∀ z, z = x ∨ z = x ++ y → Q (.str z) H) :
    if c = true then tVar i σ H Q else tOp (fun x y H Q => ∃ i j, x = .str i ∧ y = .str j ∧ i.length + j.length ≤ sizeLine ∧ Q (.str (i ++ j)) H) (tVar i) (tC (.str y)) σ H Q := by
  cases c with
  | true => exact iteT ⟨_, e, h x (.inl rfl)⟩
  | false => exact iteF ⟨_, e, x, y, rfl, rfl, hl, h _ (.inr rfl)⟩
def oddB : V → Bool
  | .str z => nameB z
  | _ => false
abbrev abc : Str := "abcdefghijklmnopqrstuvwxyz"
abbrev abcX : Str := "A_1 .'~"
def wordOk (z : Str) : Bool := !nameB z && (decide (z.length ≤ 1000) && PyData.strOk z) && (decide ((z ++ ("x" : Str)).length ≤ 1000) && PyData.strOk (z ++ ("x" : Str))) && (decide ((cutS z (some 1) none).length ≤ 1000) && PyData.strOk (cutS z (some 1) none)) && decide (z.length + ("x" : Str).length ≤ 1000)
theorem words_ok : ((kwL ++ (["self"] : List Str)).all wordOk) = true := by decide +kernel

section
variable {P : Program} {w : World} {K : PySem.W.Frag} {mg : Str → Option Value} {base : Heap}
def spLaw (K : PySem.W.Frag) : Sp := fun vs H Q _ => ∃ (a : Addr) (ns : List Int), vs = [.ref a] ∧ SqL K H a (ns.map V.int) ∧ ns.length ≤ 63 ∧ ∀ H', Q (.bl true) H'
abbrev nLw : List Str := ["_law_script", "_law_tape", "_law_letters", "_law_word", "_law_turn", "_law_signs", "_law_text", "_law_thing", "_law_k"]
theorem scLw : FnScope nLw ["_law_script"] (defScope sLaw) := ⟨rfl, rfl, rfl, by decide +kernel, rfl, by decide +kernel, by decide +kernel⟩
structure Defs (P : Program) (w : World) (K : PySem.W.Frag) (mg : Str → Option Value) (base : Heap) : Prop where
  name : Dn P w K mg base 1 "is_name" ["thing"] (spText K nameB)
  beg : Dn P w K mg base 1 "_law_begin" ["_law_script"] (spBegin K)
  draw : Dn P w K mg base 1 "_law_draw" ["_law_tape", "_law_many"] spDraw
  pick : Dn P w K mg base 2 "_law_pick" ["_law_tape", "_law_items"] (spPick K)
  odd : Dn P w K mg base 3 "_law_odd" ["_law_tape"] spOdd
  keys : Dn P w K mg base 1 "_law_keywords" [] spKeys
  due : Dn P w K mg base 2 "_law_due" ["_law_thing"] (spText K nameB)
theorem ok_law {f : Addr} {fd : FuncData} (F : Fun K "law" "law" sLaw f fd) (B : Blt mg) (D : Defs P w K mg base) : FnOk P w K mg base CX0 4 f fd ["_law_script"] (spLaw K) := by
  refine F.ok scLw (fun vs H Q E h => ?_) (fun cdv A outer s H vs Q E hr h => ?_)
  · obtain ⟨a, ns, rfl, _⟩ := h
    rfl
  · obtain ⟨a, ns, rfl, hS, hlen, k⟩ := h
    have hr1 : Room 1 _ := hr.mono (by decide)
    have hr2 : Room 2 _ := hr.mono (by decide)
    refine ⟨_, pss_cons (ps_set (i := 1) scLw.nd rfl (Or.inr rfl) (pe_dn D.beg hr1 (by rfl) (pa_cons (pv 0) pa_nil)))
      (pss_cons (ps_set (i := 2) scLw.nd rfl (Or.inl rfl) pe_str)
      (pss_cons (ps_for PassesOwn.never rfl (pi_list (pe_op op_cat (pe_dn0 D.keys hr1 (by rfl)) (pe_lst (pa_cons pe_str pa_nil)))) (pg_name (i := 3) scLw.nd rfl (Or.inl rfl))
        (pss_one (ps_if (pw_or (pt_cmpR op_notBl (pe_dn D.name hr1 (by rfl) (pa_cons (pv 3) pa_nil)) pe_bl (nomark _))
            (pw_or (pt_cmpR op_ne (pe_dn D.name hr1 (by rfl) (pa_cons (pe_op op_add_str (pv 3) pe_str) pa_nil)) (pe_dn D.due hr2 (by rfl) (pa_cons (pe_op op_add_str (pv 3) pe_str) pa_nil)) (nomark _))
              (pw_or1 (pt_cmpR op_ne (pe_dn D.name hr1 (by rfl) (pa_cons (pe_slice sl_str (pv 3) (po_some pe_int) po_none) pa_nil)) (pe_dn D.due hr2 (by rfl) (pa_cons (pe_slice sl_str (pv 3) (po_some pe_int) po_none) pa_nil)) (nomark _))))).pt
          (pss_one (ps_ret pe_bl)) pss_nil)))
      (pss_cons (ps_for PassesOwn.never rfl (pi_range1 (by rfl) B.range (pa_cons pe_int pa_nil)) (pg_name (i := 4) scLw.nd rfl (Or.inl rfl))
        (pss_cons (ps_set (i := 5) scLw.nd rfl (Or.inr rfl) (pe_ifExp (pt_cmpR op_gt (pe_dn D.draw hr1 (by rfl) (pa_cons (pv 1) (pa_cons pe_int pa_nil))) pe_int (nomark _)) (pv 2) (pe_op op_add_str (pv 2) pe_str)))
        (pss_cons (ps_set (i := 6) scLw.nd rfl (Or.inl rfl) (pe_join pe_str (pe_lc (own := [("_law_k", 8)]) (g := gName 8) (tt := tYes) rfl scLw.nd (pi_range1 (by rfl) B.range (pa_cons (pe_dn D.pick hr2 (by rfl) (pa_cons (pv 1) (pa_cons (pe_lst (pa_cons pe_int (pa_cons pe_int (pa_cons pe_int (pa_cons pe_int (pa_cons pe_int (pa_cons pe_int (pa_cons (pe_dn D.draw hr1 (by rfl) (pa_cons (pv 1) (pa_cons pe_int pa_nil))) pa_nil)))))))) pa_nil))) pa_nil))
            (blkOk_by (N := nLw) (sc := defScope sLaw) (by decide +kernel)) (fun _ _ _ _ _ => pg_name (i := 8) scLw.nd rfl (Or.inl rfl)) (fun _ _ _ _ _ => pts_nil) (fun _ _ _ _ _ => pe_dn D.pick hr2 (by rfl) (pa_cons (pv 1) (pa_cons (pv 5) pa_nil))))))
        (pss_one (ps_for PassesOwn.never rfl (pi_tup (pe_tup (pa_cons (pv 6) (pa_cons (pe_dn D.odd hr (by rfl) (pa_cons (pv 1) pa_nil)) (pa_cons (pe_lst (pa_cons (pv 6) pa_nil)) (pa_cons (pe_tup (pa_cons (pv 6) pa_nil)) pa_nil)))))) (pg_name (i := 7) scLw.nd rfl (Or.inl rfl))
          (pss_one (ps_if (pt_cmpR op_ne (pe_callB call_repr_bool (by rfl) B.repr boot_repr (pa_cons (pe_dn D.name hr1 (by rfl) (pa_cons (pv 7) pa_nil)) pa_nil)) (pe_callB call_repr_bool (by rfl) B.repr boot_repr (pa_cons (pe_dn D.due hr2 (by rfl) (pa_cons (pv 7) pa_nil)) pa_nil)) (nomark _))
            (pss_one (ps_ret pe_bl)) pss_nil)))))))
      (pss_one (ps_ret (pe_and (pe_dn D.name hr1 (by rfl) (pa_cons (pe_op op_rep_str pe_str pe_int) pa_nil)) (pe_and (pe_not (pe_dn D.name hr1 (by rfl) (pa_cons (pe_op op_rep_str pe_str pe_int) pa_nil))) (pe_and (pe_not (pe_dn D.name hr1 (by rfl) (pa_cons pe_str pa_nil)))
        (pe_and (pe_dn D.name hr1 (by rfl) (pa_cons pe_str pa_nil)) (pe_one (pe_dn D.name hr1 (by rfl) (pa_cons pe_str pa_nil)))))))))))), ?_⟩
    -- tape, letters, the words
    refine ⟨_, rfl, a, ns, rfl, hS, fun d H1 hd0 T1 s1 => ⟨rfl, fun p hp => ⟨by show 1 ≤ sizeLine; decide, fun q hq => ?_⟩⟩⟩
    have nqp : p ≠ q := ne_of_none upd_same hq
    refine ⟨p, q, _, _, rfl, rfl, by rw [upd_ne nqp]; exact upd_same, upd_same, by show (kwL.map V.str).length + 1 ≤ sizeLine; decide +kernel, fun l hl => ?_⟩
    have e1 : kwL.map V.str ++ [V.str "self"] = (kwL ++ (["self"] : List Str)).map V.str := by rw [List.map_append]; rfl
    rw [e1]
    have T2 := ((T1.new hp (.lst (kwL.map V.str))).new hq (.lst [.str "self"])).new hl (.lst ((kwL ++ (["self"] : List Str)).map V.str))
    refine ⟨l, rfl, ⟨_, SqL.of upd_same⟩, for_list (K := K) (a := l) (xs := (kwL ++ (["self"] : List Str)).map V.str) (fun i σ H2 => ∃ v3, σ = [some (.ref a), some (.ref d), some (.str abc), v3, none, none, none, none, none] ∧ Tape H2 d 0 ∧ H2 l = some (.lst ((kwL ++ (["self"] : List Str)).map V.str)))
      ⟨none, rfl, T2, upd_same⟩ (fun i σ H2 _ ⟨_, _, _, h⟩ => SqL.of h) ?_ ?_⟩
    · rintro i x σ H2 hi ⟨v3, rfl, T3, hl2⟩
      rw [List.getElem?_map] at hi
      obtain ⟨z, hz, rfl⟩ := Option.map_eq_some_iff.mp hi
      have hw := List.all_eq_true.mp words_ok z (List.mem_of_getElem? hz)
      unfold wordOk at hw
      simp only [Bool.and_eq_true, Bool.not_eq_true', decide_eq_true_eq] at hw
      obtain ⟨⟨⟨⟨w1, w2⟩, w3⟩, w4⟩, w5⟩ := hw
      refine ⟨_, rfl, _, rfl, .inl ⟨z, rfl, w2.1, w2.2, fun H3 s3 => ⟨_, _, rfl, rfl, _, rfl, iteNS w1 ?_⟩⟩⟩
      refine ⟨_, rfl, _, _, rfl, rfl, line1000 w5, _, rfl, .inl ⟨_, rfl, w3.1, w3.2, fun H4 s4 => ⟨_, rfl, _, _, rfl, rfl, line1000 w5, _, rfl, .inl ⟨_, rfl, w3.1, w3.2, fun H5 s5 => ⟨rfl, _, rfl, iteNS rfl ?_⟩⟩⟩⟩⟩
      refine ⟨_, rfl, _, rfl, z, rfl, line1000 w2.1, _, rfl, .inl ⟨_, rfl, w4.1, w4.2, fun H6 s6 => ⟨_, rfl, _, rfl, z, rfl, line1000 w2.1, _, rfl, .inl ⟨_, rfl, w4.1, w4.2, fun H7 s7 => ⟨rfl, _, rfl, iteNS rfl ?_⟩⟩⟩⟩⟩
      have s8 := s3.trans (s4.trans (s5.trans (s6.trans s7)))
      exact ⟨_, rfl, T3.same s8, s8 _ _ hl2⟩
    · rintro σ H2 ⟨v3, rfl, T3, _⟩
      refine ⟨30, rfl, by decide, by decide, for_range (n := 30) (fun i σ H3 => ∃ v3 v4 v5 v6 v7 p, σ = [some (.ref a), some (.ref d), some (.str abc), v3, v4, v5, v6, v7, none] ∧ Tape H3 d p ∧ p ≤ 1000 * (i : Int)) ⟨v3, none, none, none, none, 0, rfl, T3, by omega⟩ ?_ ?_⟩
      · rintro i σ H3 hi ⟨v3, v4, v5, v6, v7, p, rfl, T4, hp4⟩
        -- signs
        refine ⟨_, rfl, d, 3, p, rfl, by decide, by decide, T4, by omega, fun n p5 H5 n0 n1 T5 hp5 o5 => ⟨_, _, rfl, rfl, _, rfl, sel_str (x := abc) rfl (by decide +kernel) fun sg hsg => ?_⟩⟩
        have hsgl : sg.length ≤ 1000 ∧ 0 < sg.length ∧ ∀ c ∈ sg.cps.toList, c < 1114112 := by
          rcases hsg with rfl | rfl
          · exact ⟨by decide +kernel, by decide +kernel, by decide +kernel⟩
          · exact ⟨by decide +kernel, by decide +kernel, by decide +kernel⟩
        -- the text
        refine ⟨⟨_, rfl⟩, _, rfl, _, rfl, d, 15, p5, rfl, by decide, by decide, T5, by omega, fun n6 p6 H6 n60 n61 T6 hp6 o6 => ⟨by show 7 ≤ sizeLine; decide, fun l6 hl6 => ?_⟩⟩
        refine ⟨d, .ref l6, _, p6, rfl, T6.new hl6 _, by omega, .inl ⟨l6, rfl, SqL.of upd_same⟩, (by intro z; cases z), by show 7 < 1073741824; decide, fun x p7 H7 hx T7 hp7 o7 => ?_⟩
        obtain ⟨j, rfl, hj0, hj1⟩ : ∃ j : Int, x = .int j ∧ 0 ≤ j ∧ j < 15 := by
          simp only [List.mem_cons, List.not_mem_nil, or_false] at hx
          rcases hx with rfl | rfl | rfl | rfl | rfl | rfl | rfl
          · exact ⟨_, rfl, by decide, by decide⟩
          · exact ⟨_, rfl, by decide, by decide⟩
          · exact ⟨_, rfl, by decide, by decide⟩
          · exact ⟨_, rfl, by decide, by decide⟩
          · exact ⟨_, rfl, by decide, by decide⟩
          · exact ⟨_, rfl, by decide, by decide⟩
          · exact ⟨_, rfl, n60, n61⟩
        refine ⟨j, rfl, by omega, by omega, fun D8 hD8 => ?_⟩
        obtain ⟨kvs7, hd7⟩ := T7.at
        have nD : d ≠ D8 := ne_of_none hd7 hD8
        refine lc_it walk_range (fun i2 H8 => ∃ (p8 : Int) (cs : List Nat), Tape H8 d p8 ∧ p8 ≤ p7 + i2 ∧ H8 D8 = some (.lst ((cs.map fun c => (⟨#[c]⟩ : Str)).map V.str)) ∧ cs.length = i2 ∧ ∀ c ∈ cs, c ∈ sg.cps.toList)
          ⟨p7, [], T7.new hD8 _, by omega, upd_same, rfl, fun _ h => (List.not_mem_nil h).elim⟩ (fun _ _ _ _ => trivial) ?_ ?_
        · rintro i2 x H8 H9 hi2 ⟨p8, cs, T8, hp8, hl8, hcs, hmem⟩ ⟨rfl, rfl⟩
          refine ⟨rfl, ?_⟩
          unfold tYes
          refine iteT ?_
          have hne : sg.cps.toList.map (fun c => V.str ⟨#[c]⟩) ≠ [] := by
            intro z
            have := congrArg List.length z
            rw [List.length_map, Array.length_toList] at this
            have h := hsgl.2.1
            exact absurd this (Nat.ne_of_gt h)
          refine ⟨_, rfl, _, rfl, d, .str sg, _, p8, rfl, T8, by omega, .inr (.inr ⟨sg, rfl, line1000 hsgl.1, rfl⟩), hne, ?_, fun x p9 H10 hx T9 hp9 o9 => ?_⟩
          · rw [List.length_map, Array.length_toList]
            exact Nat.lt_of_le_of_lt hsgl.1 (by decide)
          obtain ⟨c, hc, rfl⟩ := List.mem_map.mp hx
          refine ⟨_, o9 _ _ hl8 nD.symm, small1000 (by rw [List.length_map, List.length_map]; omega), p9, cs ++ [c], ?_, by omega, ?_, ?_, ?_⟩
          · obtain ⟨c1, ns1, l1, t1, t2, t3, t4, t5⟩ := T9
            have nc : c1 ≠ D8 := by
              intro e
              subst e
              have := o9 _ _ hl8 nD.symm
              rw [t2] at this
              have := Option.some.inj this
              injection this with this
              cases ns1 with
              | nil => exact t3 rfl
              | cons m r =>
                cases cs with
                | nil => cases this
                | cons c2 r2 => injection this with a1 a2; cases a1
            exact ⟨c1, ns1, l1, by rw [upd_ne nD]; exact t1, by rw [upd_ne nc]; exact t2, t3, t4, t5⟩
          · rw [upd_same, List.map_append, List.map_append]; rfl
          · rw [List.length_append, hcs]; rfl
          · intro c' h'
            rcases List.mem_append.mp h' with h' | h'
            · exact hmem c' h'
            · rw [List.mem_singleton.mp h']; exact hc
        · rintro H8 ⟨p8, cs, T8, hp8, hl8, hcs, hmem⟩
          refine ⟨_, D8, cs.map fun c => (⟨#[c]⟩ : Str), rfl, rfl, .inl (SqL.of hl8), ?_, ?_⟩
          · rw [sum_ones, List.length_map]
            have e0 : ("" : Str).length = 0 := by decide +kernel
            rw [e0]; omega
          have hok := ok_of (z := Txt.join ("" : Str) (cs.map fun c => (⟨#[c]⟩ : Str))) (n := 1000) (by rw [join_signs]; omega) (by rw [join_signs]; exact fun c hc => hsgl.2.2 c (hmem c hc))
          generalize Txt.join ("" : Str) (cs.map fun c => (⟨#[c]⟩ : Str)) = tx at hok
          -- the four things
          refine ⟨_, rfl, _, rfl, d, p8, rfl, T8, by omega, fun x p9 H9 ox T9 hp9 o9 => ⟨_, rfl, by show 1 ≤ sizeLine; decide, fun l1 hl1 => ⟨_, rfl, by show 1 ≤ sizeLine; decide, fun t1 ht1 => ⟨by show 4 ≤ sizeLine; decide, fun t ht => ?_⟩⟩⟩⟩
          have T10 := ((T9.new hl1 (.lst [.str tx])).new ht1 (.tup [.str tx])).new ht (.tup [.str tx, x, .ref l1, .ref t1])
          have n1 : l1 ≠ t1 := ne_of_none upd_same ht1
          have n2 : l1 ≠ t := ne_of_none (by rw [upd_ne n1]; exact upd_same) ht
          have n3 : t1 ≠ t := ne_of_none upd_same ht
          refine ⟨t, rfl, ⟨_, SqT.of upd_same⟩, for_tup (K := K) (a := t) (xs := [.str tx, x, .ref l1, .ref t1]) (fun i2 σ H11 => ∃ v7, σ = [some (.ref a), some (.ref d), some (.str abc), v3, some (.int (0 + (i : Int))), some (.str sg), some (.str tx), v7, none] ∧
              Same (L2.upd (L2.upd (L2.upd H9 l1 (.lst [.str tx])) t1 (.tup [.str tx])) t (.tup [.str tx, x, .ref l1, .ref t1])) H11) ⟨v7, rfl, Same.refl _⟩ (fun i2 σ H11 _ ⟨_, _, h⟩ => SqT.of (h _ _ upd_same)) ?_ ?_⟩
          · rintro i2 y σ H11 hi2 ⟨v7, rfl, s11⟩
            have oy : OddV H11 y := by
              have hy := List.mem_of_getElem? hi2
              simp only [List.mem_cons, List.not_mem_nil, or_false] at hy
              rcases hy with rfl | rfl | rfl | rfl
              · exact .inl ⟨tx, rfl, hok.1, hok.2⟩
              · exact ox.mono fun b u _ h => s11 _ _ (((same_new hl1 _).trans ((same_new ht1 _).trans (same_new ht _))) _ _ h)
              · exact .inr (.inl ⟨_, s11 _ _ (by rw [upd_ne n2, upd_ne n1]; exact upd_same)⟩)
              · exact .inr (.inr (.inl ⟨_, s11 _ _ (by rw [upd_ne n3]; exact upd_same)⟩))
            rcases oy with ⟨z, rfl, z1, z2⟩ | hn
            · exact ⟨_, rfl, _, rfl, .inl ⟨z, rfl, z1, z2, fun H12 s12 => ⟨_, rfl, _, rfl, _, rfl, .inl ⟨z, rfl, z1, z2, fun H13 s13 => ⟨_, rfl, rfl, _, rfl, iteNS rfl ⟨_, rfl, s11.trans (s12.trans s13)⟩⟩⟩⟩⟩⟩
            · exact ⟨_, rfl, _, rfl, .inr ⟨hn.no, fun H12 s12 => ⟨_, rfl, _, rfl, _, rfl, .inr ⟨(hn.mono fun b u _ h => s12 _ _ h).no, fun H13 s13 => ⟨_, rfl, rfl, _, rfl, iteNS rfl ⟨_, rfl, s11.trans (s12.trans s13)⟩⟩⟩⟩⟩⟩
          · rintro σ H11 ⟨v7, rfl, s11⟩
            refine ⟨_, _, _, _, _, _, rfl, T10.same s11, ?_⟩
            omega
      · rintro σ H3 ⟨v3, v4, v5, v6, v7, p, rfl, T4, hp4⟩
        have e12 : nameB (repS ("a" : Str) 12) = true := by decide +kernel
        have e13 : nameB (repS ("a" : Str) 13) = false := by decide +kernel
        have e0 : nameB ("" : Str) = false := by decide +kernel
        have e5 : nameB ("selfs" : Str) = true := by decide +kernel
        have e3 : nameB ("sel" : Str) = true := by decide +kernel
        refine ⟨_, _, rfl, rfl, by decide +kernel, by decide +kernel, by decide +kernel, by decide +kernel, by decide +kernel, by decide +kernel, _, rfl, .inl ⟨_, rfl, by decide +kernel, by decide +kernel, fun H4 s4 => ⟨_, rfl, ?_⟩⟩⟩
        rw [e12]
        refine iteT ⟨_, _, rfl, rfl, by decide +kernel, by decide +kernel, by decide +kernel, by decide +kernel, by decide +kernel, by decide +kernel, _, rfl, .inl ⟨_, rfl, by decide +kernel, by decide +kernel, fun H5 s5 => ⟨_, rfl, _, rfl, ?_⟩⟩⟩
        rw [e13]
        refine iteT ⟨_, rfl, .inl ⟨_, rfl, by decide +kernel, by decide +kernel, fun H6 s6 => ⟨_, rfl, _, rfl, ?_⟩⟩⟩
        rw [e0]
        refine iteT ⟨_, rfl, .inl ⟨_, rfl, by decide +kernel, by decide +kernel, fun H7 s7 => ⟨_, rfl, ?_⟩⟩⟩
        rw [e5]
        refine iteT ⟨_, rfl, .inl ⟨_, rfl, by decide +kernel, by decide +kernel, fun H8 s8 => ?_⟩⟩
        rw [e3]
        exact k H8
end
end Ask
namespace Ask
open PySem L2
theorem all_mk {l : PySem.W.OpenLaw} {w : World} {K : PySem.W.Frag} {h : Heap} {mg : Str → Option Value} {f1 f2 f3 f4 f5 f6 f7 f8 fa : Addr} (X : K.In h) (G : h.Ns mainGlobals mg) (hfa : mg "law" = some (.ref fa))
    {od1 an1 : Option Addr} {sl1 : Array (Option Value)} {oc1 kV1 dc1 pm1 cd1 ct1 : Value} {od2 an2 : Option Addr} {sl2 : Array (Option Value)} {oc2 kV2 dc2 pm2 cd2 ct2 : Value} {od3 an3 : Option Addr} {sl3 : Array (Option Value)} {oc3 kV3 dc3 pm3 cd3 ct3 : Value} {od4 an4 : Option Addr} {sl4 : Array (Option Value)} {oc4 kV4 dc4 pm4 cd4 ct4 : Value} {od5 an5 : Option Addr} {sl5 : Array (Option Value)} {oc5 kV5 dc5 pm5 cd5 ct5 : Value} {od6 an6 : Option Addr} {sl6 : Array (Option Value)} {oc6 kV6 dc6 pm6 cd6 ct6 : Value} {od7 an7 : Option Addr} {sl7 : Array (Option Value)} {oc7 kV7 dc7 pm7 cd7 ct7 : Value} {od8 an8 : Option Addr} {sl8 : Array (Option Value)} {oc8 kV8 dc8 pm8 cd8 ct8 : Value}
    (a1 : PySem.W.nsIn K mainGlobals "is_name" = some (some (.ref f1))) (l1 : K.lookup f1 = some ⟨oc1, od1, .func (PySem.W.fnOf "is_name" "is_name" (defArgs sIsName) (defBody sIsName) (defScope sIsName) .none kV1 dc1 pm1 an1 cd1 ct1), sl1⟩) (c1 : PySem.W.codeIn K cd1 "is_name" = true) (k1 : PySem.W.keepIn K (.ref f1) = true)
    (a2 : PySem.W.nsIn K mainGlobals "_law_begin" = some (some (.ref f2))) (l2 : K.lookup f2 = some ⟨oc2, od2, .func (PySem.W.fnOf "_law_begin" "_law_begin" (defArgs sBegin) (defBody sBegin) (defScope sBegin) .none kV2 dc2 pm2 an2 cd2 ct2), sl2⟩) (c2 : PySem.W.codeIn K cd2 "_law_begin" = true) (k2 : PySem.W.keepIn K (.ref f2) = true)
    (a3 : PySem.W.nsIn K mainGlobals "_law_draw" = some (some (.ref f3))) (l3 : K.lookup f3 = some ⟨oc3, od3, .func (PySem.W.fnOf "_law_draw" "_law_draw" (defArgs sDraw) (defBody sDraw) (defScope sDraw) .none kV3 dc3 pm3 an3 cd3 ct3), sl3⟩) (c3 : PySem.W.codeIn K cd3 "_law_draw" = true) (k3 : PySem.W.keepIn K (.ref f3) = true)
    (a4 : PySem.W.nsIn K mainGlobals "_law_pick" = some (some (.ref f4))) (l4 : K.lookup f4 = some ⟨oc4, od4, .func (PySem.W.fnOf "_law_pick" "_law_pick" (defArgs sPick) (defBody sPick) (defScope sPick) .none kV4 dc4 pm4 an4 cd4 ct4), sl4⟩) (c4 : PySem.W.codeIn K cd4 "_law_pick" = true) (k4 : PySem.W.keepIn K (.ref f4) = true)
    (a5 : PySem.W.nsIn K mainGlobals "_law_odd" = some (some (.ref f5))) (l5 : K.lookup f5 = some ⟨oc5, od5, .func (PySem.W.fnOf "_law_odd" "_law_odd" (defArgs sOdd) (defBody sOdd) (defScope sOdd) .none kV5 dc5 pm5 an5 cd5 ct5), sl5⟩) (c5 : PySem.W.codeIn K cd5 "_law_odd" = true) (k5 : PySem.W.keepIn K (.ref f5) = true)
    (a6 : PySem.W.nsIn K mainGlobals "_law_keywords" = some (some (.ref f6))) (l6 : K.lookup f6 = some ⟨oc6, od6, .func (PySem.W.fnOf "_law_keywords" "_law_keywords" (defArgs sKeys) (defBody sKeys) (defScope sKeys) .none kV6 dc6 pm6 an6 cd6 ct6), sl6⟩) (c6 : PySem.W.codeIn K cd6 "_law_keywords" = true) (k6 : PySem.W.keepIn K (.ref f6) = true)
    (a7 : PySem.W.nsIn K mainGlobals "_law_due" = some (some (.ref f7))) (l7 : K.lookup f7 = some ⟨oc7, od7, .func (PySem.W.fnOf "_law_due" "_law_due" (defArgs sDue) (defBody sDue) (defScope sDue) .none kV7 dc7 pm7 an7 cd7 ct7), sl7⟩) (c7 : PySem.W.codeIn K cd7 "_law_due" = true) (k7 : PySem.W.keepIn K (.ref f7) = true)
    (a8 : PySem.W.nsIn K mainGlobals "law" = some (some (.ref f8))) (l8 : K.lookup f8 = some ⟨oc8, od8, .func (PySem.W.fnOf "law" "law" (defArgs sLaw) (defBody sLaw) (defScope sLaw) .none kV8 dc8 pm8 an8 cd8 ct8), sl8⟩) (c8 : PySem.W.codeIn K cd8 "law" = true) (k8 : PySem.W.keepIn K (.ref f8) = true)
    (z0 : PySem.W.nsIn K mainGlobals "len" = some none)    (z1 : PySem.W.nsIn K mainGlobals "int" = some none)    (z2 : PySem.W.nsIn K mainGlobals "str" = some none)    (z3 : PySem.W.nsIn K mainGlobals "isinstance" = some none)    (z4 : PySem.W.nsIn K mainGlobals "all" = some none)    (z5 : PySem.W.nsIn K mainGlobals "range" = some none)    (z6 : PySem.W.nsIn K mainGlobals "repr" = some none)
    {tm : Tok} {akw : Addr} {odk : Option Addr} {itk : Array Value} {nk : Nat} {slk : Array (Option Value)} (m1 : PySem.W.nsIn K mainGlobals "MOST_LETTERS" = some (some (.int 12 tm))) (m2 : PySem.W.nsIn K mainGlobals "KEYWORDS" = some (some (.ref akw))) (m3 : K.lookup akw = some ⟨.type "tuple", odk, .seq itk nk, slk⟩) (m4 : Vals (kwL.map V.str) itk.toList) (m5 : itk.size ≤ sizeLine) :
    ∃ fd : FuncData, (∀ (s : Shared) (v : Value), BindsTo s fd ⟨[v], []⟩ [("_law_script", v)]) ∧ ∀ base : Heap, K.In base → base.Ns mainGlobals mg → FnOk l.prog w K mg base CX0 4 fa fd ["_law_script"] (spLaw K) := by
  have e := hfa.symm.trans (PySem.W.mg_of X G a8)
  cases e
  have B : Blt mg := ⟨PySem.W.mg_none_of X G z0, PySem.W.mg_none_of X G z1, PySem.W.mg_none_of X G z2, PySem.W.mg_none_of X G z3, PySem.W.mg_none_of X G z4, PySem.W.mg_none_of X G z5, PySem.W.mg_none_of X G z6⟩
  have C : Cst K mg := ⟨⟨tm, PySem.W.mg_of X G m1⟩, ⟨akw, PySem.W.mg_of X G m2, fun H => .inr ⟨_, itk, nk, m3, rfl, rfl, m5, m4⟩⟩⟩
  have F1 := fun_mk (st := sIsName) l1 c1 k1
  have b1 := F1.binds (ps := ["thing"]) fun _ _ _ _ _ _ us hl => match us, hl with | [_], _ => rfl
  have F2 := fun_mk (st := sBegin) l2 c2 k2
  have b2 := F2.binds (ps := ["_law_script"]) fun _ _ _ _ _ _ us hl => match us, hl with | [_], _ => rfl
  have F3 := fun_mk (st := sDraw) l3 c3 k3
  have b3 := F3.binds (ps := ["_law_tape", "_law_many"]) fun _ _ _ _ _ _ us hl => match us, hl with | [_, _], _ => rfl
  have F4 := fun_mk (st := sPick) l4 c4 k4
  have b4 := F4.binds (ps := ["_law_tape", "_law_items"]) fun _ _ _ _ _ _ us hl => match us, hl with | [_, _], _ => rfl
  have F5 := fun_mk (st := sOdd) l5 c5 k5
  have b5 := F5.binds (ps := ["_law_tape"]) fun _ _ _ _ _ _ us hl => match us, hl with | [_], _ => rfl
  have F6 := fun_mk (st := sKeys) l6 c6 k6
  have b6 := F6.binds (ps := []) fun _ _ _ _ _ _ us hl => match us, hl with | [], _ => rfl
  have F7 := fun_mk (st := sDue) l7 c7 k7
  have b7 := F7.binds (ps := ["_law_thing"]) fun _ _ _ _ _ _ us hl => match us, hl with | [_], _ => rfl
  have F8 := fun_mk (st := sLaw) l8 c8 k8
  refine ⟨PySem.W.fnOf "law" "law" (defArgs sLaw) (defBody sLaw) (defScope sLaw) .none kV8 dc8 pm8 an8 cd8 ct8, fun s v => .of_eq rfl, fun base _ _ => ?_⟩
  have D1 : Dn l.prog w K mg base 1 "is_name" ["thing"] (spText K nameB) := ⟨f1, _, PySem.W.mg_of X G a1, k1, b1, ok_name F1 B C⟩
  have D2 : Dn l.prog w K mg base 1 "_law_begin" ["_law_script"] (spBegin K) := ⟨f2, _, PySem.W.mg_of X G a2, k2, b2, ok_begin F2⟩
  have D3 : Dn l.prog w K mg base 1 "_law_draw" ["_law_tape", "_law_many"] spDraw := ⟨f3, _, PySem.W.mg_of X G a3, k3, b3, ok_draw F3 B⟩
  have D4 : Dn l.prog w K mg base 2 "_law_pick" ["_law_tape", "_law_items"] (spPick K) := ⟨f4, _, PySem.W.mg_of X G a4, k4, b4, ok_pick F4 B D3⟩
  have D5 : Dn l.prog w K mg base 3 "_law_odd" ["_law_tape"] spOdd := ⟨f5, _, PySem.W.mg_of X G a5, k5, b5, ok_odd F5 D4⟩
  have D6 : Dn l.prog w K mg base 1 "_law_keywords" [] spKeys := ⟨f6, _, PySem.W.mg_of X G a6, k6, b6, ok_keys F6⟩
  have D7 : Dn l.prog w K mg base 2 "_law_due" ["_law_thing"] (spText K nameB) := ⟨f7, _, PySem.W.mg_of X G a7, k7, b7, ok_due F7 B D6⟩
  exact ok_law F8 B ⟨D1, D2, D3, D4, D5, D6, D7⟩

theorem walk {l : PySem.W.OpenLaw} {q : Program} {loose : List Str} {XP : (Str → Option Value) → Heap → Prop} {YP : World → Heap → Prop} {d : DefRec} {K : Params → PySem.W.Frag} (hn : l.most = some 63) (hdf : d.params.defaults = [])
    (hY : ∀ (w : World) (h : Heap), YP w h → (K w.params).In h)
    (F : ∀ (w : World) (mg : Str → Option Value) (fa : Addr) (h : Heap), (K w.params).In h → h.Ns mainGlobals mg → mg d.name = some (.ref fa) →
      ∃ fd : FuncData, (∀ (s : Shared) (u : Value), BindsTo s fd ⟨[u], []⟩ [("_law_script", u)]) ∧ ∀ base : Heap, (K w.params).In base → base.Ns mainGlobals mg → FnOk l.prog w (K w.params) mg base CX0 4 fa fd ["_law_script"] (spLaw (K w.params))) :
    PySem.W.WalkO q loose XP YP l.row.toRowW d [] (fun f vs => PySem.call f vs) :=
  L2.walk_of (n := 63) (k := 4) (x := "_law_script") (CX := fun _ => CX0) (sp := fun w => spLaw (K w.params)) hn (by decide) hdf ⟨rfl, by decide, by decide⟩ hY F (fun _ _ a ns hl _ hS => ⟨a, ns, rfl, hS, hl, fun _ => rfl⟩) fun _ _ _ _ _ z => z
end Ask
open PySem PySem.W PyProof.Rows
set_option maxRecDepth 100000 in
set_option maxHeartbeats 0 in
theorem PySem.Challenge.cw_innerasks_k10_names_holds : PySem.Challenge.rw_innerasks_k10_names.Holds := by
  w_on; o_law; k_head; (case hw => w_witness2)
  k_fill
  refine Ask.walk (l := PySem.Challenge.rw_innerasks_k10_names) rfl rfl (fun w h Y => PySem.W.kIn_of Y) ?F
  case F =>
    intro w mg fa h KX G hmg
    refine' Ask.all_mk KX G hmg ?a1 ?l1 ?c1 ?k1 ?a2 ?l2 ?c2 ?k2 ?a3 ?l3 ?c3 ?k3 ?a4 ?l4 ?c4 ?k4 ?a5 ?l5 ?c5 ?k5 ?a6 ?l6 ?c6 ?k6 ?a7 ?l7 ?c7 ?k7 ?a8 ?l8 ?c8 ?k8 ?z0 ?z1 ?z2 ?z3 ?z4 ?z5 ?z6 ?m1 ?m2 ?m3 ?m4 ?m5
    (case a1 => k_is)
    (case l1 => k_is)
    (case c1 => k_is)
    (case k1 => k_is)
    (case a2 => k_is)
    (case l2 => k_is)
    (case c2 => k_is)
    (case k2 => k_is)
    (case a3 => k_is)
    (case l3 => k_is)
    (case c3 => k_is)
    (case k3 => k_is)
    (case a4 => k_is)
    (case l4 => k_is)
    (case c4 => k_is)
    (case k4 => k_is)
    (case a5 => k_is)
    (case l5 => k_is)
    (case c5 => k_is)
    (case k5 => k_is)
    (case a6 => k_is)
    (case l6 => k_is)
    (case c6 => k_is)
    (case k6 => k_is)
    (case a7 => k_is)
    (case l7 => k_is)
    (case c7 => k_is)
    (case k7 => k_is)
    (case a8 => k_is)
    (case l8 => k_is)
    (case c8 => k_is)
    (case k8 => k_is)
    (case z0 => k_is)
    (case z1 => k_is)
    (case z2 => k_is)
    (case z3 => k_is)
    (case z4 => k_is)
    (case z5 => k_is)
    (case z6 => k_is)
    (case m1 => k_is)
    (case m2 => k_is)
    (case m3 => k_is)
    (case m4 => (repeat first | exact .nil | refine .cons ⟨_, rfl⟩ ?_))
    (case m5 => decide)
