import PyProof.Rows.All
import Wide.All
import OpenK.AllK
import Wide.FinOn
import HandS.ForMost
import HandS.Wide
import HandS.Codes
import HandS.Exc
import HandS.TryOnly
import HandS.ExcOwn
import HandS.WordsExc
import HandS.ExcInit
import HandS.ExcField
import HandS.IsInst
import HandS.StrMore
import HandS.Style
import KE.GoesMore
import KE.GoesEnum
import HandS.More
import HandS.IterVal
import KE.KOwnIter
import HandS.Conv
import KE.KDictSum
import HandS.Walk
import PyProof.ReprBulk
import PyProof.ReprRoads
import HandS.ExcIs
import KE.GoesComp
import KE.KExcHit
import HandS.TupAny
import HandS.Defaults
import HandS.Property
import HandS.Star
import HandS.ClsMeth
import HandS.GenList
import HandS.TupLe
import KE.KStateDown
import HandS.Head0
import HandS.Head1
import HandS.Head2
import PySem.Challenge.RW_searchback_k04_whole_ends_beginnings_and
set_option Elab.async false
set_option maxRecDepth 100000
namespace Kx
open PySem L2
def top (i : Nat) : Stmt := PySem.Challenge.pw_searchback_k04_whole_ends_beginnings_and.main.body.getD i (.Pass ⟨0, 0, 0, 0⟩)
abbrev sWall : Stmt := top 0 -- _wall(k)
abbrev sBadKinds_init : Stmt := inClass (top 3) 0 -- BadKinds.__init__
abbrev sBadHistory_init : Stmt := inClass (top 4) 0 -- BadHistory.__init__
abbrev sBadYears_init : Stmt := inClass (top 5) 0 -- BadYears.__init__
abbrev sWhole : Stmt := top 9 -- is_whole(thing, low, high)
abbrev sLabel : Stmt := top 10 -- is_label(thing)
abbrev sSeq : Stmt := top 11 -- is_sequence(thing)
abbrev sKinds_init : Stmt := inClass (top 16) 0 -- Kinds.__init__
abbrev sKinds_eq : Stmt := inClass (top 16) 1 -- Kinds.__eq__
abbrev sKinds_len : Stmt := inClass (top 16) 2 -- Kinds.__len__
abbrev sKinds_iter : Stmt := inClass (top 16) 3 -- Kinds.__iter__
abbrev sKinds_contains : Stmt := inClass (top 16) 4 -- Kinds.__contains__
abbrev sKinds_arity_of : Stmt := inClass (top 16) 5 -- Kinds.arity_of
abbrev sKinds_fault : Stmt := inClass (top 16) 6 -- Kinds.fault
abbrev sRowFault : Stmt := top 17 -- _row_fault(row, arities)
abbrev sHistory_init : Stmt := inClass (top 21) 0 -- History.__init__
abbrev sHistory_eq : Stmt := inClass (top 21) 1 -- History.__eq__
abbrev sHistory_len : Stmt := inClass (top 21) 2 -- History.__len__
abbrev sHistory_iter : Stmt := inClass (top 21) 3 -- History.__iter__
abbrev sHistory_from_years : Stmt := inClass (top 21) 4 -- History.from_years
abbrev sHistory_persons : Stmt := inClass (top 21) 5 -- History.persons
abbrev sHistory_deed_count : Stmt := inClass (top 21) 6 -- History.deed_count
abbrev sHistory_first : Stmt := inClass (top 21) 7 -- History.first
abbrev sHistory_last : Stmt := inClass (top 21) 8 -- History.last
abbrev sHistory_beginnings : Stmt := inClass (top 21) 9 -- History.beginnings
abbrev sHistory_joined : Stmt := inClass (top 21) 10 -- History.joined
abbrev sHistory_then_year : Stmt := inClass (top 21) 11 -- History.then_year
abbrev sHistory_renamed : Stmt := inClass (top 21) 12 -- History.renamed
abbrev sHistory_agrees : Stmt := inClass (top 21) 13 -- History.agrees
abbrev sHistoryOf : Stmt := top 22 -- history_of(kinds, years)
abbrev sLastOf : Stmt := top 23 -- _last_of(years, many)
abbrev sIsTooLong : Stmt := top 24 -- _is_too_long(years)
abbrev sYearOf : Stmt := top 25 -- _year_of(kinds, index, year)
abbrev sMix : Stmt := top 27 -- _law_mix(_law_number, _law_turn)
abbrev sHand : Stmt := top 28 -- _law_hand(_law_script)
abbrev sDraw : Stmt := top 29 -- _law_draw(_law_hand_here, _law_many)
abbrev sOne : Stmt := top 30 -- _law_one(_law_hand_here, _law_rows)
abbrev sWord : Stmt := top 31 -- _law_word(_law_hand_here, _law_most)
abbrev sLKinds : Stmt := top 32 -- _law_kinds(_law_hand_here)
abbrev sLMadeDeed : Stmt := top 33 -- _law_made_deed(_law_hand_here, _law_rows, _law_persons_here)
abbrev sLPersons : Stmt := top 34 -- _law_persons(_law_hand_here)
abbrev sLOddDeed : Stmt := top 35 -- _law_odd_deed(_law_hand_here, _law_rows, _law_persons_here)
abbrev sOdd : Stmt := top 36 -- _law_odd(_law_hand_here)
abbrev sLLabel : Stmt := top 37 -- _law_label(_law_thing)
abbrev sLDeedDue : Stmt := top 38 -- _law_deed_due(_law_rows, _law_deed)
abbrev sLToldYears : Stmt := top 39 -- _law_told_years(_law_hand_here, _law_rows, _law_persons_here)
abbrev sLTuples : Stmt := top 40 -- _law_tuples(_law_years)
abbrev sLAgree : Stmt := top 41 -- _law_agree(_law_one_here, _law_other, _law_years)
abbrev sLJoined : Stmt := top 42 -- _law_joined(_law_one_here, _law_other)
abbrev sLLonger : Stmt := top 43 -- _law_longer(_law_history, _law_deeds)
abbrev sLSameEnds : Stmt := top 44 -- _law_same_ends(_law_one_here, _law_other, _law_years)
abbrev sLCutsHold : Stmt := top 45 -- _law_cuts_hold(_law_history, _law_years)
abbrev sLaw : Stmt := top 46 -- law(_law_script)
end Kx

set_option maxHeartbeats 4000000
namespace Kx
open PySem L2
section
variable {P : Program} {w : World} {K : PySem.W.Frag} {mg : Str → Option Value} {base : Heap}
structure Bl (mg : Str → Option Value) : Prop where
  int : mg "int" = none
  abs : mg "abs" = none
  len : mg "len" = none
  enumerate : mg "enumerate" = none
  range : mg "range" = none
def spMix : Sp := fun vs H Q _ => ∃ a b : Int, vs = [.int a, .int b] ∧ ∀ z : Int, Q (.int z) H
structure Has (P : Program) (w : World) (K : PySem.W.Frag) (mg : Str → Option Value) (base : Heap) (x : Str) (k : Nat) (ps : List Str) (sp : Sp) (f : Addr) (fd : FuncData) : Prop where
  G : FnOk P w K mg base CX0 k f fd ps sp
  m : mg x = some (.ref f)
  kp : PySem.W.keepIn K (.ref f) = true
  b : Binds K fd ps []
def HasF (P : Program) (w : World) (K : PySem.W.Frag) (mg : Str → Option Value) (base : Heap) (x : Str) (k : Nat) (ps : List Str) (sp : Sp) : Prop := ∃ f fd, Has P w K mg base x k ps sp f fd
theorem scMix : FnScope ["_law_number", "_law_turn", "_law_once", "_law_twice"] ["_law_number", "_law_turn"] (defScope sMix) := ⟨rfl, rfl, rfl, by decide +kernel, rfl, by decide +kernel, by decide +kernel⟩
theorem small31 {z : Int} {m : Int} (h : 0 < m) (h' : m ≤ 2147483648) : CMul (z % m) (z % m) := by
  have h1 := Int.emod_nonneg z (show m ≠ 0 by omega)
  have h2 := Int.emod_lt_of_pos z h
  exact .inl ⟨by omega, by omega⟩
theorem ok_mix {f : Addr} {fd : FuncData} (F : Fun K "_law_mix" "_law_mix" sMix f fd) (m : mg "_law_mix" = some (.ref f)) (T : Bl mg) : HasF P w K mg base "_law_mix" 1 ["_law_number", "_law_turn"] spMix := by
  refine ⟨f, fd, ?_, m, F.kp, F.binds fun _ _ _ _ _ _ us hl => match us, hl with | [_, _], _ => rfl⟩
  refine F.ok scMix (fun vs H Q E h => ?_) (fun cdv A outer s H vs Q E hr h => ?_)
  · obtain ⟨a, b, rfl, _⟩ := h
    rfl
  · obtain ⟨a, b, rfl, k⟩ := h
    refine ⟨_, pss_cons (ps_set (i := 2) scMix.nd rfl (Or.inl rfl) (pe_op op_mod (pe_callTy call_int1 (by rfl) T.int (by decide +kernel) (pa_cons (pe_op op_add (pe_op op_add (pe_op op_mul (pv 0) pe_int) (pe_op op_mul (pv 1) pe_int)) pe_int) pa_nil)) pe_int))
      (pss_cons (ps_set (i := 3) scMix.nd rfl (Or.inl rfl) (pe_op op_mod (pe_callTy call_int1 (by rfl) T.int (by decide +kernel) (pa_cons (pe_op op_add (pe_op op_add (pe_op op_mul (pv 2) (pv 2)) (pe_op op_mul (pe_op op_fdiv (pv 2) pe_int) pe_int)) (pe_op op_mul (pv 1) pe_int)) pa_nil)) pe_int))
      (pss_one (ps_ret (pe_op op_fdiv (pe_op op_mod (pe_callTy call_int1 (by rfl) T.int (by decide +kernel) (pa_cons (pe_op op_add (pe_op op_fdiv (pe_op op_mul (pv 3) (pv 3)) pe_int) (pv 2)) pa_nil)) pe_int) pe_int)))), ?_⟩
    refine ⟨_, rfl, _, _, rfl, rfl, .inr ⟨by decide, by decide⟩, _, rfl, _, _, rfl, rfl, .inr ⟨by decide, by decide⟩, _, _, rfl, rfl, _, _, rfl, rfl, .inl ⟨_, rfl, _, _, rfl, rfl, (by show (0 : Int) < _; decide), ?_⟩⟩
    refine ⟨_, rfl, _, rfl, _, _, rfl, rfl, small31 (by decide) (by decide), _, rfl, _, _, rfl, rfl, ⟨by decide, by decide⟩, _, _, rfl, rfl, .inr ⟨by decide, by decide⟩, _, _, rfl, rfl, _, rfl, _, _, rfl, rfl, .inr ⟨by decide, by decide⟩, _, _, rfl, rfl, .inl ⟨_, rfl, _, _, rfl, rfl, (by show (0 : Int) < _; decide), ?_⟩⟩
    refine ⟨_, rfl, _, rfl, _, _, rfl, rfl, small31 (by decide) (by decide), _, _, rfl, rfl, ⟨by decide, by decide⟩, _, rfl, _, _, rfl, rfl, .inl ⟨_, rfl, _, _, rfl, rfl, (by show (0 : Int) < _; decide), _, _, rfl, rfl, ⟨by decide, by decide⟩, ?_⟩⟩
    exact k _
/-- the hand at p: what is left of the script, and three counters -/
def HandAt (H : Hp) (p q : Addr) : Prop := ∃ (cs : List Int) (a : Nat) (b c : Int), H p = some (.lst [.ref q, .int a, .int b, .int c]) ∧ H q = some (.lst (cs.map V.int))
/-- all but p is as it was -/
def Keep (H H' : Hp) (p : Addr) : Prop := ∀ b o, H b = some o → b ≠ p → H' b = some o
theorem Keep.refl {H : Hp} {p : Addr} : Keep H H p := fun _ _ h _ => h
theorem Keep.trans {H H1 H2 : Hp} {p : Addr} (a : Keep H H1 p) (b : Keep H1 H2 p) : Keep H H2 p := fun c o h e => b c o (a c o h e) e
theorem Keep.upd {H H1 : Hp} {p : Addr} {o : HO} (a : Keep H H1 p) : Keep H (upd H1 p o) p := fun c u h e => by rw [upd_ne e]; exact a c u h e
theorem HandAt.ne {H : Hp} {p q : Addr} {xs ys : List V} (h : H p = some (.lst (.ref q :: xs))) {cs : List Int} (h' : H q = some (.lst (cs.map V.int))) : q ≠ p := by
  intro e
  subst e
  rw [h] at h'
  cases cs with
  | nil => exact nomatch h'
  | cons c cs => exact nomatch h'
def spDraw : Sp := fun vs H Q _ => ∃ (p q : Addr) (m : Int), vs = [.ref p, .int m] ∧ HandAt H p q ∧ 0 < m ∧ m.natAbs < 2 ^ 200 ∧
  ∀ (z : Int) (H' : Hp), 0 ≤ z → z < m → HandAt H' p q → Keep H H' p → Q (.int z) H'
theorem scDraw : FnScope ["_law_hand_here", "_law_many", "_law_cell", "_law_rest"] ["_law_hand_here", "_law_many"] (defScope sDraw) := ⟨rfl, rfl, rfl, by decide +kernel, rfl, by decide +kernel, by decide +kernel⟩
theorem ok_draw {f : Addr} {fd : FuncData} (F : Fun K "_law_draw" "_law_draw" sDraw f fd) (m : mg "_law_draw" = some (.ref f)) (T : Bl mg) (M : HasF P w K mg base "_law_mix" 1 ["_law_number", "_law_turn"] spMix) : HasF P w K mg base "_law_draw" 2 ["_law_hand_here", "_law_many"] spDraw := by
  refine ⟨f, fd, ?_, m, F.kp, F.binds fun _ _ _ _ _ _ us hl => match us, hl with | [_, _], _ => rfl⟩
  obtain ⟨f1, fd1, M⟩ := M
  refine F.ok scDraw (fun vs H Q E h => ?_) (fun cdv A outer s H vs Q E hr h => ?_)
  · obtain ⟨a, b, c, rfl, _⟩ := h
    rfl
  · obtain ⟨p, q, m, rfl, ⟨cs, a, b, c, hp, hq⟩, m0, m1, k⟩ := h
    have nqp : q ≠ p := HandAt.ne (ys := []) hp hq
    refine ⟨_, C8.pss_cut (ps_if (PW.pt (pw_and (pt_cmpR op_eq (pe_ix ix_list (pv 0) pe_int (fun _ _ => rfl)) pe_int (nomark _)) (pw_and1 (pt_cmpR op_lt (pe_ix ix_list (pv 0) pe_int (fun _ _ => rfl)) (pe_callB call_len_seq (by rfl) T.len PySem.boot_len (pa_cons (pe_ix ix_list (pv 0) pe_int (fun _ _ => rfl)) pa_nil)) (nomark _)))))
        (pss_cons (ps_set (i := 2) scDraw.nd rfl (Or.inl rfl) (pe_ix ix_list (pe_ix ix_list (pv 0) pe_int (fun _ _ => rfl)) (pe_ix ix_list (pv 0) pe_int (fun _ _ => rfl)) (fun _ _ => rfl)))
        (pss_cons (ps_asg (pe_op op_add (pe_ix ix_list (pv 0) pe_int (fun _ _ => rfl)) pe_int) (pg_sub (pv 0) pe_int set_list))
        (pss_cons (ps_if (pt_cmpR op_lt (pv 2) (pe_op op_pow pe_int pe_int) (nomark _)) (pss_one (ps_ret (pe_op op_mod (pe_callTy call_int1 (by rfl) T.int (by decide +kernel) (pa_cons (pe_call M.G hr (by rfl) M.m M.kp M.b .nil pass0 (pa_cons (pe_op op_mod (pe_callTy call_int1 (by rfl) T.int (by decide +kernel) (pa_cons (pv 2) pa_nil)) pe_int) (pa_cons (pe_ix ix_list (pv 0) pe_int (fun _ _ => rfl)) pa_nil))) pa_nil)) (pv 1)))) pss_nil)
        (pss_one (ps_asg (pv 2) (pg_sub (pv 0) pe_int set_list)))))) pss_nil)
      (pss_cons (ps_if (pt_cmpR op_gt (pe_ix ix_list (pv 0) pe_int (fun _ _ => rfl)) pe_int (nomark _))
        (pss_cons (ps_set (i := 3) scDraw.nd rfl (Or.inl rfl) (pe_ix ix_list (pv 0) pe_int (fun _ _ => rfl)))
        (pss_cons (ps_asg (pe_op op_fdivW (pv 3) (pv 1)) (pg_sub (pv 0) pe_int set_list))
        (pss_one (ps_ret (pe_op op_mod (pe_callTy call_int1 (by rfl) T.int (by decide +kernel) (pa_cons (pv 3) pa_nil)) (pv 1)))))) pss_nil)
      (pss_cons (ps_asg (pe_op op_mod (pe_callTy call_int1 (by rfl) T.int (by decide +kernel) (pa_cons (pe_op op_add (pe_ix ix_list (pv 0) pe_int (fun _ _ => rfl)) pe_int) pa_nil)) pe_int) (pg_sub (pv 0) pe_int set_list))
      (pss_one (ps_ret (pe_op op_mod (pe_callTy call_int1 (by rfl) T.int (by decide +kernel) (pa_cons (pe_call M.G hr (by rfl) M.m M.kp M.b .nil pass0 (pa_cons (pe_ix ix_list (pv 0) pe_int (fun _ _ => rfl)) (pa_cons (pe_ix ix_list (pv 0) pe_int (fun _ _ => rfl)) pa_nil))) pa_nil)) (pv 1)))))), ?_⟩
    refine ⟨fun σ H1 => ∃ (x y : Option V) (a : Nat) (b c : Int), σ = [some (.ref p), some (.int m), x, y] ∧ H1 p = some (.lst [.ref q, .int a, .int b, .int c]) ∧ H1 q = some (.lst (cs.map V.int)) ∧ Keep H H1 p, ?_, ?_⟩
    · refine ⟨_, rfl, p, _, _, _, rfl, rfl, SqL.of hp, by rfl, rfl, _, rfl, ?_⟩
      refine ite2 (fun _ => ?_) (fun _ => ?_)
      · refine ⟨_, rfl, p, _, _, _, rfl, rfl, SqL.of hp, by rfl, _, rfl, p, _, _, _, rfl, rfl, SqL.of hp, by rfl, q, _, rfl, .inl (SqL.of hq), _, _, rfl, rfl, _, rfl, ?_⟩
        refine ite2 (fun h1 => ?_) (fun _ => ?_)
        · have h1 : (a : Int) < ((cs.map V.int).length : Nat) := of_decide_eq_true h1
          rw [List.length_map] at h1
          have h2 : a < cs.length := by omega
          have h3 : (cs.map V.int)[a]? = some (V.int cs[a]) := by rw [List.getElem?_map, List.getElem?_eq_getElem h2]; rfl
          have hq' : ∀ o, (upd H p o) q = some (.lst (cs.map V.int)) := fun o => by rw [upd_ne nqp]; exact hq
          refine ⟨_, rfl, p, _, _, _, rfl, rfl, SqL.of hp, by rfl, _, rfl, p, _, _, _, rfl, rfl, SqL.of hp, by rfl, q, _, _, _, rfl, rfl, SqL.of hq, atI_nat h3, ?_⟩
          refine ⟨_, rfl, p, _, _, _, rfl, rfl, SqL.of hp, by rfl, _, _, rfl, rfl, _, rfl, p, _, _, _, rfl, rfl, hp, by rfl, ?_⟩
          refine ⟨_, rfl, _, _, rfl, rfl, ⟨by decide, by decide, by decide⟩, _, _, rfl, rfl, _, rfl, ?_⟩
          refine ite2 (fun _ => ?_) (fun _ => ?_)
          · refine ⟨_, rfl, .inl ⟨_, rfl, _, _, rfl, rfl, (by show (0 : Int) < _; decide), _, rfl, p, _, _, _, rfl, rfl, SqL.of upd_same, by rfl, _, _, rfl, fun z => .inl ⟨_, rfl, _, rfl, _, _, rfl, rfl, m0, ?_⟩⟩⟩
            exact k _ _ (Int.emod_nonneg _ (by omega)) (Int.emod_lt_of_pos _ m0) ⟨cs, a + 1, b, c, upd_same, hq' _⟩ Keep.refl.upd
          · refine ⟨_, rfl, _, rfl, p, _, _, _, rfl, rfl, upd_same, by rfl, ?_⟩
            refine ⟨_, _, a + 1, cs[a], c, rfl, upd_same, ?_, Keep.refl.upd.upd⟩
            rw [upd_upd]
            exact hq' _
        · exact ⟨_, _, a, b, c, rfl, hp, hq, Keep.refl⟩
      · exact ⟨_, _, a, b, c, rfl, hp, hq, Keep.refl⟩
    · rintro σ H1 ⟨x, y, a, b, c, rfl, hp, hq, kp⟩
      have hq' : ∀ o, (upd H1 p o) q = some (.lst (cs.map V.int)) := fun o => by rw [upd_ne nqp]; exact hq
      refine ⟨_, rfl, p, _, _, _, rfl, rfl, SqL.of hp, by rfl, _, _, rfl, rfl, _, rfl, ?_⟩
      refine ite2 (fun _ => ?_) (fun _ => ?_)
      · refine ⟨_, rfl, p, _, _, _, rfl, rfl, SqL.of hp, by rfl, _, rfl, _, rfl, _, _, rfl, rfl, wide_div m0 m1 (by decide) (by decide), _, rfl, p, _, _, _, rfl, rfl, hp, by rfl, ?_⟩
        refine ⟨_, rfl, .inl ⟨_, rfl, _, rfl, _, _, rfl, rfl, m0, ?_⟩⟩
        exact k _ _ (Int.emod_nonneg _ (by omega)) (Int.emod_lt_of_pos _ m0) ⟨cs, a, _, c, upd_same, hq' _⟩ kp.upd
      · refine ⟨_, rfl, p, _, _, _, rfl, rfl, SqL.of hp, by rfl, _, _, rfl, rfl, .inl ⟨_, rfl, _, _, rfl, rfl, (by show (0 : Int) < _; decide), _, rfl, p, _, _, _, rfl, rfl, hp, by rfl, ?_⟩⟩
        refine ⟨_, rfl, p, _, _, _, rfl, rfl, SqL.of upd_same, by rfl, _, rfl, p, _, _, _, rfl, rfl, SqL.of upd_same, by rfl, _, _, rfl, fun z => .inl ⟨_, rfl, _, rfl, _, _, rfl, rfl, m0, ?_⟩⟩
        exact k _ _ (Int.emod_nonneg _ (by omega)) (Int.emod_lt_of_pos _ m0) ⟨cs, a, _, _, upd_same, hq' _⟩ kp.upd
/-- over enumerate(list), the list standing still -/
theorem for_enum {K : PySem.W.Frag} {a : Addr} {xs : List V} {g : TG} {tb : TS} {D : Ends} {σ : St} {H : Hp} (W : Nat → St → Hp → Prop) (start : W 0 σ H) (still : ∀ i σ H, W i σ H → SqL K H a xs)
    (turn : ∀ i x σ H T, xs[i]? = some x → W i σ H → H T = none → g (.ref T) σ (upd H T (.tup [.int (i : Nat), x])) fun σ2 H2 => tb { D with nx := W (i + 1), ct := W (i + 1), bk := D.nx } σ2 H2) (after : ∀ σ H, W xs.length σ H → D.nx σ H) :
    ∃ U : Nat → Nat → St → Hp → Prop, (∃ m, U 0 m σ H) ∧ ∀ i m σ H, U i m σ H → ((Ite K a).stop i H ∧ D.nx σ H) ∨ ((Ite K a).go i H ∧ ∃ N : St → Hp → Prop, (∀ σ' H', N σ' H' → ∃ m', m' < m ∧ U (i + 1) m' σ' H') ∧
      ∀ x H', (Ite K a).yld i H x H' → g x σ H' fun σ2 H2 => tb { D with nx := N, ct := N, bk := D.nx } σ2 H2) := by
  refine ⟨fun i m σ H => m + i = xs.length ∧ W i σ H, ⟨xs.length, by omega, start⟩, fun i m σ H u => ?_⟩
  obtain ⟨e, u⟩ := u
  cases m with
  | zero =>
    have e : i = xs.length := by omega
    subst e
    exact .inl ⟨⟨xs, still _ _ _ u, Nat.le_refl _⟩, after _ _ u⟩
  | succ m =>
    have lt : i < xs.length := by omega
    refine .inr ⟨⟨xs, xs[i], still _ _ _ u, List.getElem?_eq_getElem lt⟩, W (i + 1), fun σ' H' u' => ⟨m, Nat.lt_succ_self _, by omega, u'⟩, fun x H' y => ?_⟩
    obtain ⟨T, z, rfl, free, rfl, same⟩ := y
    exact turn i z σ H T (same xs (still _ _ _ u)) u free
def spHand (K : PySem.W.Frag) : Sp := fun vs H Q _ => ∃ (a : Addr) (ns : List Int), vs = [.ref a] ∧ SqL K H a (ns.map V.int) ∧ ns.length ≤ 63 ∧ ∀ (p q : Addr) (H' : Hp), H p = none → H q = none → q ≠ p → HandAt H' p q → Same H H' → Q (.ref p) H'
theorem sameUpd {H H1 : Hp} {p : Addr} {o : HO} (s : Same H H1) (h : H1 p = none) : Same H (upd H1 p o) := fun b u e => by
  have e1 := s b u e
  rw [upd_ne (ne_of_none e1 h)]
  exact e1
theorem item_int {ns : List Int} {i : Nat} {y : V} (h : (ns.map V.int)[i]? = some y) : ∃ z, y = V.int z ∧ ns[i]? = some z := by
  rw [List.getElem?_map] at h
  cases e : ns[i]? with
  | none => rw [e] at h; cases h
  | some z => rw [e] at h; exact ⟨z, (Option.some.inj h).symm, rfl⟩
theorem scHand : FnScope ["_law_script", "_law_total", "_law_k", "_law_cell"] ["_law_script"] (defScope sHand) := ⟨rfl, rfl, rfl, by decide +kernel, rfl, by decide +kernel, by decide +kernel⟩
theorem ok_hand {f : Addr} {fd : FuncData} (F : Fun K "_law_hand" "_law_hand" sHand f fd) (m : mg "_law_hand" = some (.ref f)) (T : Bl mg) : HasF P w K mg base "_law_hand" 1 ["_law_script"] (spHand K) := by
  refine ⟨f, fd, ?_, m, F.kp, F.binds fun _ _ _ _ _ _ us hl => match us, hl with | [_], _ => rfl⟩
  refine F.ok scHand (fun vs H Q E h => ?_) (fun cdv A outer s H vs Q E hr h => ?_)
  · obtain ⟨a, b, rfl, _⟩ := h
    rfl
  · obtain ⟨a, ns, rfl, hS, hl, k⟩ := h
    refine ⟨_, pss_cons (ps_set (i := 1) scHand.nd rfl (Or.inl rfl) pe_int)
      (pss_cons (ps_for PassesOwn.never rfl (pi_enum (by rfl) T.enumerate (pa_cons (pv 0) pa_nil)) (pg_tup rfl (pgs_cons (pg_name (i := 2) scHand.nd rfl (.inl rfl)) (pgs_cons (pg_name (i := 3) scHand.nd rfl (.inl rfl)) pgs_nil)))
        (pss_one (ps_set (i := 1) scHand.nd rfl (Or.inl rfl) (pe_op op_mod (pe_callTy call_int1 (by rfl) T.int (by decide +kernel) (pa_cons (pe_op op_add (pe_op op_mul (pv 1) pe_int) (pe_op op_mul (pe_callTy call_int1 (by rfl) T.int (by decide +kernel) (pa_cons (pv 3) pa_nil)) (pe_op op_add (pv 2) pe_int))) pa_nil)) pe_int))))
      (pss_one (ps_ret (pe_lst (pa_cons (pe_lc (own := [("_law_cell", 3)]) (g := gName 3) (tt := tYes) (by rfl) scHand.nd (pi_list (pv 0)) (blkOk_by (own := [("_law_cell", 3)]) (N := ["_law_script", "_law_total", "_law_k", "_law_cell"]) (sc := defScope sHand) (by decide +kernel))
          (fun _ _ _ _ _ => pg_name (i := 3) scHand.nd rfl (Or.inl rfl)) (fun _ _ _ _ _ => pts_nil) (fun _ _ _ _ _ => (pe_callB call_abs (by rfl) T.abs (by decide +kernel) (pa_cons (pe_callTy call_int1 (by rfl) T.int (by decide +kernel) (pa_cons (pv 3) pa_nil)) pa_nil))))
        (pa_cons pe_int (pa_cons pe_int (pa_cons (pv 1) pa_nil)))))))), ?_⟩
    refine ⟨_, rfl, a, _, rfl, hS, for_enum (K := K) (a := a) (xs := ns.map V.int) (fun i σ H2 => ∃ (t : Int) (x y : Option V), σ = [some (.ref a), some (.int t), x, y] ∧ Same H H2 ∧ True) ⟨_, _, _, rfl, Same.refl _, trivial⟩ (fun i σ H2 ⟨_, _, _, _, s2, _⟩ => s2.seq hS) ?_ ?_⟩
    · rintro i x σ H2 T hi ⟨t, c, d, rfl, s2, _⟩ free
      obtain ⟨z, rfl, hz⟩ := item_int hi
      have hlt : i < ns.length := (List.getElem?_eq_some_iff.mp hz).1
      refine ⟨T, _, rfl, SqT.of upd_same, rfl, _, _, rfl, _, _, rfl, rfl, ?_⟩
      refine ⟨_, rfl, _, _, rfl, rfl, .inr ⟨by decide, by decide⟩, _, rfl, .inl ⟨_, rfl, _, rfl, _, _, rfl, rfl, _, _, rfl, rfl, .inr ⟨by omega, by omega⟩, _, _, rfl, rfl, .inl ⟨_, rfl, _, _, rfl, rfl, (by show (0 : Int) < _; decide), ?_⟩⟩⟩
      exact ⟨_, _, _, rfl, sameUpd s2 free, trivial⟩
    · rintro σ H2 ⟨t, c, d, rfl, s2, _⟩
      have q : ∀ (b : Int) (l : List Int), (l ++ [b]).map V.int = l.map V.int ++ [V.int b] := fun b l => by rw [List.map_append]; rfl
      refine ⟨_, rfl, a, rfl, ⟨_, s2.seq hS⟩, fun D hD => lc_list (K := K) (a := a) (xs := ns.map V.int) (fun i H3 => Same H H3 ∧ ∃ cs : List Int, cs.length = i ∧ H3 D = some (.lst (cs.map V.int))) ⟨sameUpd s2 hD, [], rfl, upd_same⟩ (fun i H3 _ w => w.1.seq hS) ?_ ?_⟩
      · rintro i y H3 hi ⟨s3, cs, hc, hd⟩
        obtain ⟨z, rfl, hz⟩ := item_int hi
        have hlt : i < ns.length := (List.getElem?_eq_some_iff.mp hz).1
        refine ⟨rfl, ?_⟩
        refine ⟨_, rfl, .inl ⟨_, rfl, _, rfl, cs.map V.int, hd, small1000 (by rw [List.length_map]; omega), ?_⟩⟩
        have e : H D = none := s2.free hD
        refine ⟨fun b u e' => ?_, cs ++ [_], by rw [List.length_append, hc]; rfl, by rw [q]; exact upd_same⟩
        rw [upd_ne (ne_of_none e' e)]
        exact s3 b u e'
      · rintro H3 ⟨s3, cs, hc, hd⟩
        refine ⟨_, rfl, (by show 4 ≤ sizeLine; decide), fun p hp => ?_⟩
        have np : p ≠ D := fun e => by rw [e, hd] at hp; cases hp
        exact k p D _ (s3.free hp) (s2.free hD) np.symm ⟨cs, 0, 0, _, upd_same, by rw [upd_ne np.symm]; exact hd⟩ (sameUpd s3 hp)
/-- every sign a letter from a to z -/
def Low (z : Str) : Prop := ∀ c ∈ z.cps.toList, 97 ≤ c ∧ c ≤ 122
theorem abc_at : ∀ n : Fin 26, (Str.ofString "abcdefghijklmnopqrstuvwxyz").cps.toList[n.1]? = some (97 + n.1) := by decide +kernel
theorem abc_ix {z : Int} (h : 0 ≤ z) (h' : z < 26) : atI (Str.ofString "abcdefghijklmnopqrstuvwxyz").cps.toList z = some (97 + z.toNat) := by
  obtain ⟨n, rfl⟩ : ∃ n : Nat, z = n := ⟨z.toNat, by omega⟩
  exact atI_nat (abc_at ⟨n, by omega⟩)
theorem len_app (a b : Str) : (a ++ b).length = a.length + b.length := Array.size_append
theorem cps_app (a b : Str) : (a ++ b).cps.toList = a.cps.toList ++ b.cps.toList := Array.toList_append
theorem Low.app {a b : Str} (h : Low a) (h' : Low b) : Low (a ++ b) := fun c hc => by
  rw [cps_app] at hc
  rcases List.mem_append.mp hc with e | e
  · exact h c e
  · exact h' c e
theorem Low.one {n : Nat} (h : n < 26) : Low ⟨#[97 + n]⟩ := fun c hc => by
  have e : c = 97 + n := by simpa using hc
  omega
theorem Low.nil : Low (Str.ofString "") := fun c hc => by
  have e : (Str.ofString "").cps.toList = [] := by decide +kernel
  rw [e] at hc
  cases hc
def spOne : Sp := fun vs H Q _ => ∃ (p q r : Addr) (xs : List V), vs = [.ref p, .ref r] ∧ HandAt H p q ∧ H r = some (.lst xs) ∧ r ≠ p ∧ 0 < xs.length ∧ xs.length ≤ 1000 ∧
  ∀ (x : V) (H' : Hp), x ∈ xs → HandAt H' p q → Keep H H' p → Q x H'
def spWord : Sp := fun vs H Q _ => ∃ (p q : Addr) (m : Int), vs = [.ref p, .int m] ∧ HandAt H p q ∧ 0 < m ∧ m ≤ 10 ∧
  ∀ (z : Str) (H' : Hp), 0 < z.length → z.length ≤ m.toNat → Low z → HandAt H' p q → Keep H H' p → Q (.str z) H'
theorem scOne : FnScope ["_law_hand_here", "_law_rows"] ["_law_hand_here", "_law_rows"] (defScope sOne) := ⟨rfl, rfl, rfl, by decide +kernel, rfl, by decide +kernel, by decide +kernel⟩
theorem ok_one {f : Addr} {fd : FuncData} (F : Fun K "_law_one" "_law_one" sOne f fd) (m : mg "_law_one" = some (.ref f)) (T : Bl mg) (D : HasF P w K mg base "_law_draw" 2 ["_law_hand_here", "_law_many"] spDraw) : HasF P w K mg base "_law_one" 3 ["_law_hand_here", "_law_rows"] spOne := by
  refine ⟨f, fd, ?_, m, F.kp, F.binds fun _ _ _ _ _ _ us hl => match us, hl with | [_, _], _ => rfl⟩
  obtain ⟨f1, fd1, D⟩ := D
  refine F.ok scOne (fun vs H Q E h => ?_) (fun cdv A outer s H vs Q E hr h => ?_)
  · obtain ⟨a, b, c, d, rfl, _⟩ := h
    rfl
  · obtain ⟨p, q, r, xs, rfl, hp, hx, ne, h0, h9, k⟩ := h
    refine ⟨_, pss_one (ps_ret (pe_ix ix_list (pv 1) (pe_call D.G hr (by rfl) D.m D.kp D.b .nil pass0 (pa_cons (pv 0) (pa_cons (pe_callB call_len_seq (by rfl) T.len PySem.boot_len (pa_cons (pv 1) pa_nil)) pa_nil))) (fun _ _ => rfl))), ?_⟩
    have hz : xs.length < 2 ^ 200 := Nat.lt_of_le_of_lt h9 (by decide)
    refine ⟨_, rfl, _, rfl, _, rfl, r, _, rfl, .inl (SqL.of hx), p, q, _, rfl, hp, by omega, by rw [Int.natAbs_natCast]; exact hz, fun z H1 z0 z1 hp1 k1 => ?_⟩
    obtain ⟨n, rfl⟩ : ∃ n : Nat, z = n := ⟨z.toNat, by omega⟩
    have lt : n < xs.length := by omega
    exact ⟨r, xs, n, _, rfl, rfl, SqL.of (k1 r _ hx ne), atI_nat (List.getElem?_eq_getElem lt), k _ _ (List.getElem_mem lt) hp1 k1⟩
theorem scWord : FnScope ["_law_hand_here", "_law_most", "_law_word_here", "_law_k"] ["_law_hand_here", "_law_most"] (defScope sWord) := ⟨rfl, rfl, rfl, by decide +kernel, rfl, by decide +kernel, by decide +kernel⟩
theorem ok_word {f : Addr} {fd : FuncData} (F : Fun K "_law_word" "_law_word" sWord f fd) (m : mg "_law_word" = some (.ref f)) (T : Bl mg) (D : HasF P w K mg base "_law_draw" 2 ["_law_hand_here", "_law_many"] spDraw) : HasF P w K mg base "_law_word" 3 ["_law_hand_here", "_law_most"] spWord := by
  refine ⟨f, fd, ?_, m, F.kp, F.binds fun _ _ _ _ _ _ us hl => match us, hl with | [_, _], _ => rfl⟩
  obtain ⟨f1, fd1, D⟩ := D
  refine F.ok scWord (fun vs H Q E h => ?_) (fun cdv A outer s H vs Q E hr h => ?_)
  · obtain ⟨a, b, c, rfl, _⟩ := h
    rfl
  · obtain ⟨p, q, m, rfl, hp, m0, m1, k⟩ := h
    refine ⟨_, pss_cons (ps_set (i := 2) scWord.nd rfl (Or.inl rfl) pe_str)
      (pss_cons (ps_for PassesOwn.never rfl (pi_range1 (by rfl) T.range (pa_cons (pe_op op_add pe_int (pe_call D.G hr (by rfl) D.m D.kp D.b .nil pass0 (pa_cons (pv 0) (pa_cons (pv 1) pa_nil)))) pa_nil)) (pg_name (i := 3) scWord.nd rfl (.inl rfl))
        (pss_one (ps_set (i := 2) scWord.nd rfl (Or.inl rfl) (pe_op op_add_str (pv 2) (pe_ix ix_str pe_str (pe_call D.G hr (by rfl) D.m D.kp D.b .nil pass0 (pa_cons (pv 0) (pa_cons pe_int pa_nil))) (fun _ _ => rfl))))))
      (pss_one (ps_ret (pv 2)))), ?_⟩
    refine ⟨_, rfl, _, rfl, p, q, m, rfl, hp, m0, by omega, fun z H1 z0 z1 hp1 k1 => ?_⟩
    refine ⟨_, _, rfl, rfl, _, rfl, by omega, by omega, for_range (n := (1 + z).toNat) (fun i σ H2 => ∃ (t : Str) (x : Option V), σ = [some (.ref p), some (.int m), some (.str t), x] ∧ t.length = i ∧ Low t ∧ HandAt H2 p q ∧ Keep H H2 p)
      ⟨_, _, rfl, rfl, Low.nil, hp1, k1⟩ ?_ ?_⟩
    · rintro i σ H2 hi ⟨t, x, rfl, ht, lt, hp2, k2⟩
      refine ⟨_, rfl, _, rfl, p, q, 26, rfl, hp2, by decide, by decide, fun y H3 y0 y1 hp3 k3 => ?_⟩
      refine ⟨_, y, _, rfl, rfl, by decide, abc_ix y0 y1, _, _, rfl, rfl, ?_, ?_⟩
      · show t.length + 1 ≤ sizeLine
        exact small1000 (by omega)
      · exact ⟨_, _, rfl, by rw [len_app, ht]; rfl, lt.app (Low.one (by omega)), hp3, k2.trans k3⟩
    · rintro σ H2 ⟨t, x, rfl, ht, lt, hp2, k2⟩
      exact ⟨_, rfl, k t H2 (by omega) (by omega) lt hp2 k2⟩
/-- the kinds of things that are asked -/
inductive Kd (H : Hp) : V → String → Prop where
  | non : Kd H .non "NoneType"
  | bl (b : Bool) : Kd H (.bl b) "bool"
  | int (i : Int) : Kd H (.int i) "int"
  | str (z : Str) : Kd H (.str z) "str"
  | lst (a : Addr) (xs : List V) (h : H a = some (.lst xs)) : Kd H (.ref a) "list"
  | tup (a : Addr) (xs : List V) (h : H a = some (.tup xs)) : Kd H (.ref a) "tuple"
  | dct (a : Addr) (xs : List (Key × V)) (h : H a = some (.dK xs)) : Kd H (.ref a) "dict"
theorem Kd.ty {K : PySem.W.Frag} {H : Hp} {x : V} {n : String} (k : Kd H x n) : TyX K H x (.type n) := by
  cases k with
  | non => exact .base .non
  | bl b => exact .base (.bl _)
  | int i => exact .base (.int _)
  | str z => exact .base (.str _)
  | lst a xs h => exact .base (.lst h)
  | tup a xs h => exact .base (.tup h)
  | dct a xs h => exact .base (.dK h)
theorem Kd.kits {H : Hp} {x : V} {n : String} (k : Kd H x n) : n ∈ ["NoneType", "bool", "int", "str", "list", "tuple", "dict"] := by cases k <;> decide
structure Bm (mg : Str → Option Value) : Prop where
  isinstance : mg "isinstance" = none
  str : mg "str" = none
  bool : mg "bool" = none
  list : mg "list" = none
  tuple : mg "tuple" = none
  longest : ∃ t, mg "LONGEST_LABEL" = some (.int 6 t)
theorem kit_int {n : String} (h : n ∈ ["NoneType", "bool", "int", "str", "list", "tuple", "dict"]) : kitB n "int" = some (n == "int" || n == "bool") := by
  simp only [List.mem_cons, List.not_mem_nil, or_false] at h
  rcases h with h | h | h | h | h | h | h <;> (subst h; decide +kernel)
theorem kit_bool {n : String} (h : n ∈ ["NoneType", "bool", "int", "str", "list", "tuple", "dict"]) : kitB n "bool" = some (n == "bool") := by
  simp only [List.mem_cons, List.not_mem_nil, or_false] at h
  rcases h with h | h | h | h | h | h | h <;> (subst h; decide +kernel)
theorem kit_str {n : String} (h : n ∈ ["NoneType", "bool", "int", "str", "list", "tuple", "dict"]) : kitB n "str" = some (n == "str") := by
  simp only [List.mem_cons, List.not_mem_nil, or_false] at h
  rcases h with h | h | h | h | h | h | h <;> (subst h; decide +kernel)
theorem kit_list {n : String} (h : n ∈ ["NoneType", "bool", "int", "str", "list", "tuple", "dict"]) : kitB n "list" = some (n == "list") := by
  simp only [List.mem_cons, List.not_mem_nil, or_false] at h
  rcases h with h | h | h | h | h | h | h <;> (subst h; decide +kernel)
theorem kit_tuple {n : String} (h : n ∈ ["NoneType", "bool", "int", "str", "list", "tuple", "dict"]) : kitB n "tuple" = some (n == "tuple") := by
  simp only [List.mem_cons, List.not_mem_nil, or_false] at h
  rcases h with h | h | h | h | h | h | h <;> (subst h; decide +kernel)
/-- a whole number from lo to hi -/
def wholeV (x : V) (lo hi : Int) : Bool := match x with
  | .int i => decide (lo ≤ i) && decide (i ≤ hi)
  | _ => false
def spWhole : Sp := fun vs H Q _ => ∃ (x : V) (n : String) (lo hi : Int), vs = [x, .int lo, .int hi] ∧ Kd H x n ∧ Q (.bl (wholeV x lo hi)) H
theorem scWhole : FnScope ["thing", "low", "high"] ["thing", "low", "high"] (defScope sWhole) := ⟨rfl, rfl, rfl, by decide +kernel, rfl, by decide +kernel, by decide +kernel⟩
theorem ok_whole {f : Addr} {fd : FuncData} (F : Fun K "is_whole" "is_whole" sWhole f fd) (m : mg "is_whole" = some (.ref f)) (T : Bl mg) (B : Bm mg) : HasF P w K mg base "is_whole" 1 ["thing", "low", "high"] spWhole := by
  refine ⟨f, fd, ?_, m, F.kp, F.binds fun _ _ _ _ _ _ us hl => match us, hl with | [_, _, _], _ => rfl⟩
  refine F.ok scWhole (fun vs H Q E h => ?_) (fun cdv A outer s H vs Q E hr h => ?_)
  · obtain ⟨a, b, c, d, rfl, _⟩ := h
    rfl
  · obtain ⟨x, n, lo, hi, rfl, hk, k⟩ := h
    refine ⟨_, pss_one (ps_ret (pe_and (pe_callB call_isi (by rfl) B.isinstance (by decide +kernel) (pa_cons (pv 0) (pa_cons (pe_bltn (v := .ty "int") (by rfl) T.int (by decide +kernel) rfl) pa_nil))) (pe_and (pe_not (pe_callB call_isi (by rfl) B.isinstance (by decide +kernel) (pa_cons (pv 0) (pa_cons (pe_bltn (v := .ty "bool") (by rfl) B.bool (by decide +kernel) rfl) pa_nil)))) (pe_one (pe_chain op_le op_le (pv 1) (pv 0) (pv 2)))))), ?_⟩
    refine ⟨_, rfl, x, _, _, _, _, rfl, .ty _, hk.ty, kit_ty (kit_int hk.kits), _, rfl, ?_⟩
    cases hk with
    | int i =>
      refine iteT ⟨_, rfl, .int i, _, _, _, _, rfl, .ty _, (Kd.int (H := H) i).ty, kit_ty (kit_bool (Kd.int (H := H) i).kits), _, rfl, _, rfl, ?_⟩
      refine iteT ⟨_, rfl, _, rfl, _, _, rfl, rfl, _, rfl, ?_⟩
      refine ite2 (fun h1 => ?_) (fun h1 => ?_)
      · have h1 : lo ≤ i := of_decide_eq_true h1
        refine ⟨_, rfl, _, _, rfl, rfl, ?_⟩
        have e : wholeV (.int i) lo hi = decide (i ≤ hi) := by simp [wholeV, h1]
        rw [e] at k
        exact k
      · have h1 : ¬ lo ≤ i := fun z => h1 (decide_eq_true z)
        have e : wholeV (.int i) lo hi = false := by simp [wholeV, h1]
        rw [e] at k
        exact k
    | bl b =>
      refine iteT ⟨_, rfl, .bl b, _, _, _, _, rfl, .ty _, (Kd.bl (H := H) b).ty, kit_ty (kit_bool (Kd.bl (H := H) b).kits), _, rfl, _, rfl, ?_⟩
      exact iteF k
    | non => exact iteF k
    | str z => exact iteF k
    | lst a xs h => exact iteF k
    | tup a xs h => exact iteF k
    | dct a xs h => exact iteF k
/-! labels -/
def isLow (c : Nat) : Bool := decide (97 ≤ c) && decide (c ≤ 122)
def isLab (z : Str) : Bool := decide (1 ≤ z.length) && (decide (z.length ≤ 6) && z.cps.toList.all isLow)
def labV (x : V) : Bool := match x with
  | .str z => isLab z
  | _ => false
theorem low_alpha : ∀ n : Fin 128, isLow n.1 = (Unicode.isAlpha n.1 && !(Unicode.isUpper n.1 || Unicode.isTitle n.1)) := by decide +kernel
theorem low_lower : ∀ n : Fin 128, isLow n.1 = true → Unicode.isLower n.1 = true := by decide +kernel
theorem low_small {c : Nat} (h : isLow c = true) : c < 128 := by
  simp only [isLow, Bool.and_eq_true, decide_eq_true_eq] at h
  omega
theorem three (z : Str) (h : 1 ≤ z.length) : (PySem.Txt.isascii z && (PySem.Txt.isalpha z && PySem.Txt.islower z)) = z.cps.toList.all isLow := by
  have hl : z.cps.toList.length = z.length := by simp [Str.length]
  unfold PySem.Txt.isascii PySem.Txt.isalpha PySem.Txt.islower
  rw [← Array.all_toList, ← Array.all_toList, ← Array.any_toList, ← Array.any_toList]
  generalize z.cps.toList = l at hl
  cases e : l.all isLow with
  | true =>
    rw [List.all_eq_true] at e
    have a1 : l.all (fun c => decide (c < 128)) = true := List.all_eq_true.mpr fun c hc => decide_eq_true (low_small (e c hc))
    have a2 : l.all Unicode.isAlpha = true := List.all_eq_true.mpr fun c hc => by
      have q := low_alpha ⟨c, low_small (e c hc)⟩
      rw [show isLow c = true from e c hc] at q
      exact (Bool.and_eq_true_iff.mp q.symm).1
    have a3 : l.any Unicode.isLower = true := by
      cases l with
      | nil => simp only [List.length_nil] at hl; omega
      | cons c l => exact List.any_eq_true.mpr ⟨c, List.mem_cons_self, low_lower ⟨c, low_small (e c List.mem_cons_self)⟩ (e c List.mem_cons_self)⟩
    have a4 : (l.any fun c => Unicode.isUpper c || Unicode.isTitle c) = false := List.any_eq_false.mpr fun c hc => by
      have q := low_alpha ⟨c, low_small (e c hc)⟩
      rw [show isLow c = true from e c hc] at q
      have q2 := (Bool.and_eq_true_iff.mp q.symm).2
      intro z
      rw [z] at q2
      cases q2
    rw [a1, a2, a3, a4]
    have h' : decide (z.length > 0) = true := decide_eq_true (by omega)
    rw [h']
    rfl
  | false =>
    obtain ⟨c, hc, hn⟩ := List.all_eq_false.mp e
    cases a1 : l.all (fun c => decide (c < 128)) with
    | false => rfl
    | true =>
      cases a2 : l.all Unicode.isAlpha with
      | false => simp
      | true =>
        have b1 : c < 128 := of_decide_eq_true (List.all_eq_true.mp a1 c hc)
        have b2 : Unicode.isAlpha c = true := List.all_eq_true.mp a2 c hc
        have q := low_alpha ⟨c, b1⟩
        simp only [b2, Bool.true_and] at q
        have q1 : isLow c = false := by
          cases z : isLow c
          · rfl
          · exact absurd z hn
        rw [q1] at q
        have a4 : (l.any fun c => Unicode.isUpper c || Unicode.isTitle c) = true := List.any_eq_true.mpr ⟨c, hc, by
          cases z : (Unicode.isUpper c || Unicode.isTitle c)
          · rw [z] at q; cases q
          · rfl⟩
        rw [a4]
        simp
def spLabel : Sp := fun vs H Q _ => ∃ (x : V) (n : String), vs = [x] ∧ Kd H x n ∧ (∀ z, x = .str z → z.length ≤ sizeLine) ∧ Q (.bl (labV x)) H
theorem scLabel : FnScope ["thing"] ["thing"] (defScope sLabel) := ⟨rfl, rfl, rfl, by decide +kernel, rfl, by decide +kernel, by decide +kernel⟩
theorem ok_label {f : Addr} {fd : FuncData} (F : Fun K "is_label" "is_label" sLabel f fd) (m : mg "is_label" = some (.ref f)) (T : Bl mg) (B : Bm mg) : HasF P w K mg base "is_label" 1 ["thing"] spLabel := by
  refine ⟨f, fd, ?_, m, F.kp, F.binds fun _ _ _ _ _ _ us hl => match us, hl with | [_], _ => rfl⟩
  obtain ⟨tL, mL⟩ := B.longest
  refine F.ok scLabel (fun vs H Q E h => ?_) (fun cdv A outer s H vs Q E hr h => ?_)
  · obtain ⟨a, b, rfl, _⟩ := h
    rfl
  · obtain ⟨x, n, rfl, hk, hz, k⟩ := h
    refine ⟨_, pss_cons (ps_if (PW.pt (pw_or (pt_not (pt_val (pe_callB call_isi (by rfl) B.isinstance (by decide +kernel) (pa_cons (pv 0) (pa_cons (pe_bltn (v := .ty "str") (by rfl) B.str (by decide +kernel) rfl) pa_nil))))) (pw_or1 (pt_not (pt_chain op_le op_le pe_int (pe_callB call_len_str (by rfl) T.len PySem.boot_len (pa_cons (pv 0) pa_nil)) (pe_glob (v := .int 6) rfl mL ⟨_, rfl⟩)))))) (pss_one (ps_ret pe_bl)) pss_nil)
      (pss_one (ps_ret (pe_and (pe_m0 PySem.F.slot_str_isascii PySem.F.type_str_isascii mt_isascii (pv 0)) (pe_and (pe_m0 PySem.F.slot_str_isalpha PySem.F.type_str_isalpha mt_isalpha (pv 0)) (pe_one (pe_m0 PySem.F.slot_str_islower PySem.F.type_str_islower mt_islower (pv 0))))))), ?_⟩
    refine ⟨_, rfl, x, _, _, _, _, rfl, .ty _, hk.ty, kit_ty (kit_str hk.kits), _, rfl, ?_⟩
    cases hk with
    | str z =>
      have hz := hz z rfl
      refine iteF ?_
      refine ⟨_, rfl, z, rfl, hz, _, _, rfl, rfl, _, rfl, ?_⟩
      refine ite2 (fun h1 => ?_) (fun h1 => ?_)
      · have h1 : (1 : Int) ≤ (z.length : Nat) := of_decide_eq_true h1
        have h1' : 1 ≤ z.length := by omega
        refine ⟨_, _, rfl, rfl, _, rfl, ?_⟩
        refine ite2 (fun h2 => ?_) (fun h2 => ?_)
        · have h2 : ¬ (z.length : Int) ≤ 6 := fun e => by rw [decide_eq_true e] at h2; cases h2
          have e : labV (.str z) = false := by
            show isLab z = false
            unfold isLab
            rw [decide_eq_false (show ¬ z.length ≤ 6 by omega), Bool.false_and, Bool.and_false]
          rw [e] at k
          exact k
        · have h2 : (z.length : Int) ≤ 6 := Classical.byContradiction fun e => h2 (by rw [decide_eq_false e]; rfl)
          have e : labV (.str z) = (PySem.Txt.isascii z && (PySem.Txt.isalpha z && PySem.Txt.islower z)) := by
            rw [three z h1']
            show isLab z = _
            unfold isLab
            rw [decide_eq_true h1', decide_eq_true (show z.length ≤ 6 by omega), Bool.true_and, Bool.true_and]
          rw [e] at k
          refine ⟨_, rfl, ⟨_, rfl⟩, _, rfl, rfl, trivial, _, rfl, ?_⟩
          cases e1 : PySem.Txt.isascii z with
          | false => rw [e1] at k; exact iteF k
          | true =>
            rw [e1, Bool.true_and] at k
            refine iteT ⟨_, rfl, ⟨_, rfl⟩, _, rfl, rfl, trivial, _, rfl, ?_⟩
            cases e2 : PySem.Txt.isalpha z with
            | false => rw [e2] at k; exact iteF k
            | true =>
              rw [e2, Bool.true_and] at k
              exact iteT ⟨_, rfl, ⟨_, rfl⟩, _, rfl, rfl, trivial, k⟩
      · have h1 : ¬ (1 : Int) ≤ (z.length : Nat) := fun e => h1 (decide_eq_true e)
        have e : labV (.str z) = false := by
          show isLab z = false
          unfold isLab
          rw [decide_eq_false (show ¬ 1 ≤ z.length by omega), Bool.false_and]
        rw [e] at k
        exact ⟨_, rfl, iteT k⟩
    | int i => exact iteT k
    | bl b => exact iteT k
    | non => exact iteT k
    | lst a xs h => exact iteT k
    | tup a xs h => exact iteT k
    | dct a xs h => exact iteT k
def seqV (n : String) : Bool := n == "list" || n == "tuple"
def spSeq : Sp := fun vs H Q _ => ∃ (x : V) (n : String), vs = [x] ∧ Kd H x n ∧ ∀ H', Same H H' → Q (.bl (seqV n)) H'
theorem scSeq : FnScope ["thing"] ["thing"] (defScope sSeq) := ⟨rfl, rfl, rfl, by decide +kernel, rfl, by decide +kernel, by decide +kernel⟩
theorem kit_seq {K : PySem.W.Frag} {n : String} (h : n ∈ ["NoneType", "bool", "int", "str", "list", "tuple", "dict"]) : PySem.W.kitAny K (.type n) [.type "list", .type "tuple"] = some (seqV n) := by
  refine kitAny_cons (kit_ty (kit_list h)) (fun e => kitAny_cons (kit_ty (kit_tuple h)) (fun e2 => ?_) (fun e2 => ?_)) (fun e => ?_)
  · unfold seqV; rw [e, e2]; exact kitAny_nil
  · unfold seqV; rw [e, e2]; rfl
  · unfold seqV; rw [e]; rfl
theorem Kd.keep {H H' : Hp} {x : V} {n : String} (k : Kd H x n) (s : Same H H') : Kd H' x n := by
  cases k with
  | non => exact .non
  | bl b => exact .bl b
  | int i => exact .int i
  | str z => exact .str z
  | lst a xs h => exact .lst a xs (s _ _ h)
  | tup a xs h => exact .tup a xs (s _ _ h)
  | dct a xs h => exact .dct a xs (s _ _ h)
theorem ok_seq {f : Addr} {fd : FuncData} (F : Fun K "is_sequence" "is_sequence" sSeq f fd) (m : mg "is_sequence" = some (.ref f)) (B : Bm mg) : HasF P w K mg base "is_sequence" 1 ["thing"] spSeq := by
  refine ⟨f, fd, ?_, m, F.kp, F.binds fun _ _ _ _ _ _ us hl => match us, hl with | [_], _ => rfl⟩
  refine F.ok scSeq (fun vs H Q E h => ?_) (fun cdv A outer s H vs Q E hr h => ?_)
  · obtain ⟨a, b, rfl, _⟩ := h
    rfl
  · obtain ⟨x, n, rfl, hk, k⟩ := h
    refine ⟨_, pss_one (ps_ret (pe_callB call_isiT (by rfl) B.isinstance (by decide +kernel) (pa_cons (pv 0) (pa_cons (pe_tup (pa_cons (pe_bltn (v := .ty "list") (by rfl) B.list (by decide +kernel) rfl) (pa_cons (pe_bltn (v := .ty "tuple") (by rfl) B.tuple (by decide +kernel) rfl) pa_nil))) pa_nil)))), ?_⟩
    refine ⟨_, rfl, by decide, fun t ht => ?_⟩
    exact ⟨x, t, _, _, _, _, rfl, upd_same, .cons (.ty _) (.cons (.ty _) .nil), (hk.keep (sameUpd (Same.refl _) ht)).ty, kit_seq hk.kits, k _ (sameUpd (Same.refl _) ht)⟩
def cV (c : Nat) : V := .str (SX.S [c])
theorem map_cV (l : List Nat) : l.map cV = (l.map fun c => SX.S [c]).map V.str := by rw [List.map_map]; rfl
theorem keepUpd {H H1 : Hp} {p a : Addr} {o : HO} (k : Keep H H1 p) (h : H a = none) : Keep H (upd H1 a o) p := fun b u e ne => by
  rw [upd_ne (ne_of_none e h)]
  exact k b u e ne
theorem HandAt.upd {H : Hp} {p q a : Addr} {o : HO} (h : HandAt H p q) (n1 : a ≠ p) (n2 : a ≠ q) : HandAt (upd H a o) p q := by
  obtain ⟨cs, x, b, c, h1, h2⟩ := h
  exact ⟨cs, x, b, c, by rw [upd_ne n1.symm]; exact h1, by rw [upd_ne n2.symm]; exact h2⟩
theorem HandAt.ap {H : Hp} {p q a : Addr} (h : HandAt H p q) (ha : H a = none) : a ≠ p := by
  obtain ⟨cs, x, b, c, h1, h2⟩ := h
  exact (ne_of_none h1 ha).symm
theorem HandAt.aq {H : Hp} {p q a : Addr} (h : HandAt H p q) (ha : H a = none) : a ≠ q := by
  obtain ⟨cs, x, b, c, h1, h2⟩ := h
  exact (ne_of_none h2 ha).symm
theorem HandAt.same {H H' : Hp} {p q : Addr} (h : HandAt H p q) (s : Same H H') : HandAt H' p q := by
  obtain ⟨cs, x, b, c, h1, h2⟩ := h
  exact ⟨cs, x, b, c, s _ _ h1, s _ _ h2⟩
theorem Same.keep {H H' : Hp} {p : Addr} (s : Same H H') : Keep H H' p := fun b o e _ => s b o e
/-- texts as data -/
def dS (ys : List Str) : List PyData := ys.map PyData.str
theorem dp_strs {K : PySem.W.Frag} {H : Hp} : ∀ ys : List Str, DpAll K H (ys.map V.str) (dS ys)
  | [] => .nil
  | y :: ys => .cons (.str y) (dp_strs ys)
def Ok (ys : List Str) : Prop := ∀ y ∈ ys, PyData.strOk y = true
theorem low_ok {z : Str} (h : Low z) : PyData.strOk z = true := by
  unfold PyData.strOk
  rw [← Array.all_toList]
  exact List.all_eq_true.mpr fun c hc => decide_eq_true (by have := h c hc; omega)
theorem lay_strs {ys : List Str} (h : Ok ys) : PyData.canLayAll0 (dS ys) = true := by
  unfold dS
  rw [PyProof.Rows.canLayAll_strs']
  exact List.all_eq_true.mpr h
theorem deep_strs : ∀ ys : List Str, PyData.depthAll (dS ys) ≤ 1
  | [] => Nat.zero_le _
  | y :: ys => by
    have ih := deep_strs ys
    show max (PyData.depth (.str y)) (PyData.depthAll (dS ys)) ≤ 1
    have e : PyData.depth (.str y) = 0 := rfl
    omega
theorem shaped_list {ys : List Str} (ok : Ok ys) : SeqAt.shaped (.list (dS ys)) = true := by
  have h := lay_strs ok
  have h2 := deep_strs ys
  have h3 : PyData.depth (.list (dS ys)) ≤ 64 := by
    show PyData.depthAll (dS ys) + 1 ≤ 64
    omega
  unfold SeqAt.shaped
  rw [decide_eq_true h3, Bool.and_true]
  exact h
/-- a comprehension over a text's signs -/
theorem lc_str {z : Str} {g : TG} {tt : TT} {te : TE} {vs : List Nat} {σ : St} {H1 : Hp} {D : Addr} {Qd : Hp → Prop} (W : Nat → Hp → Prop) (start : W 0 (upd H1 D (.lst [])))
    (turn : ∀ i c H, z.cps[i]? = some c → W i H → g (.str ⟨#[c]⟩) (wipe σ vs) H fun σ2 H2 => wipe σ2 vs = wipe σ vs ∧ tt σ2 H2 fun b H3 =>
      if b = true then te σ2 H3 fun y H4 => ∃ acc, H4 D = some (.lst acc) ∧ acc.length < sizeLine ∧ W (i + 1) (upd H4 D (.lst (acc ++ [y]))) else W (i + 1) H3) (after : ∀ H, W z.cps.size H → Qd H) :
    ∃ U : Nat → Nat → Hp → Prop, (∃ m, U 0 m (upd H1 D (.lst []))) ∧ ∀ i m H, U i m H → ((Its z).stop i H ∧ Qd H) ∨ ((Its z).go i H ∧ ∃ Nx : Hp → Prop, (∀ H', Nx H' → ∃ m', m' < m ∧ U (i + 1) m' H') ∧
      ∀ x H', (Its z).yld i H x H' → g x (wipe σ vs) H' fun σ2 H2 => wipe σ2 vs = wipe σ vs ∧ tt σ2 H2 fun b H3 => if b = true then te σ2 H3 fun y H4 => ∃ acc, H4 D = some (.lst acc) ∧ acc.length < sizeLine ∧ Nx (upd H4 D (.lst (acc ++ [y]))) else Nx H3) := by
  refine ⟨fun i m H => m + i = z.cps.size ∧ W i H, ⟨z.cps.size, by omega, start⟩, fun i m H u => ?_⟩
  obtain ⟨e, u⟩ := u
  cases m with
  | zero =>
    obtain rfl : i = z.cps.size := by omega
    exact .inl ⟨Nat.le_refl _, after _ u⟩
  | succ m =>
    have lt : i < z.cps.size := by omega
    refine .inr ⟨lt, W (i + 1), fun H' u' => ⟨m, Nat.lt_succ_self _, by omega, u'⟩, fun x H' y => ?_⟩
    obtain ⟨rfl, c, hc, rfl⟩ := y
    exact turn i c _ hc u
def spLLab : Sp := fun vs H Q _ => ∃ (x : V) (n : String), vs = [x] ∧ Kd H x n ∧ (∀ z, x = .str z → PyData.strOk z = true ∧ z.length ≤ 100) ∧ ∀ H', Same H H' → Q (.bl (labV x)) H'
theorem eqv_nil : ∀ ys : List Str, PyData.eqv (.list (dS ys)) (.list []) = ys.isEmpty
  | [] => rfl
  | y :: ys => rfl
/-- the signs that are no letters from a to z -/
def bad (l : List Nat) : List Nat := l.filter fun c => !isLow c
theorem bad_nil (l : List Nat) : (bad l).isEmpty = l.all isLow := by
  unfold bad
  induction l with
  | nil => rfl
  | cons c l ih =>
    rw [List.filter_cons, List.all_cons, ← ih]
    cases isLow c <;> rfl
theorem abc_in : ∀ c, decide (c ∈ (Str.ofString "abcdefghijklmnopqrstuvwxyz").cps.toList) = isLow c := fun c => by
  have e : (Str.ofString "abcdefghijklmnopqrstuvwxyz").cps.toList = (List.range 26).map (97 + ·) := by decide +kernel
  rw [e]
  unfold isLow
  by_cases h : c ∈ (List.range 26).map (97 + ·)
  · obtain ⟨j, hj, rfl⟩ := List.mem_map.mp h
    have := List.mem_range.mp hj
    rw [decide_eq_true h, decide_eq_true (show 97 ≤ 97 + j by omega), decide_eq_true (show 97 + j ≤ 122 by omega)]
    rfl
  · rw [decide_eq_false h]
    by_cases h1 : 97 ≤ c
    · have h2 : ¬ c ≤ 122 := fun h2 => h (List.mem_map.mpr ⟨c - 97, List.mem_range.mpr (by omega), by omega⟩)
      rw [decide_eq_false h2, Bool.and_false]
    · rw [decide_eq_false h1, Bool.false_and]
theorem scLLabel : FnScope ["_law_thing", "_law_letter"] ["_law_thing"] (defScope sLLabel) := ⟨rfl, rfl, rfl, by decide +kernel, rfl, by decide +kernel, by decide +kernel⟩
theorem ok_llab {f : Addr} {fd : FuncData} (F : Fun K "_law_label" "_law_label" sLLabel f fd) (m : mg "_law_label" = some (.ref f)) (T : Bl mg) (B : Bm mg) : HasF P w K mg base "_law_label" 1 ["_law_thing"] spLLab := by
  refine ⟨f, fd, ?_, m, F.kp, F.binds fun _ _ _ _ _ _ us hl => match us, hl with | [_], _ => rfl⟩
  refine F.ok scLLabel (fun vs H Q E h => ?_) (fun cdv A outer s H vs Q E hr h => ?_)
  · obtain ⟨a, b, rfl, _⟩ := h
    rfl
  · obtain ⟨x, n, rfl, hk, hz, k⟩ := h
    refine ⟨_, pss_cons (ps_if (PW.pt (pw_or (pt_not (pt_val (pe_callB call_isi (by rfl) B.isinstance (by decide +kernel) (pa_cons (pv 0) (pa_cons (pe_bltn (v := .ty "str") (by rfl) B.str (by decide +kernel) rfl) pa_nil))))) (pw_or1 (pt_not (pt_chain op_le op_le pe_int (pe_callB call_len_str (by rfl) T.len PySem.boot_len (pa_cons (pv 0) pa_nil)) pe_int))))) (pss_one (ps_ret pe_bl)) pss_nil)
      (pss_one (ps_ret (pe_cmpR (op_eqD hr.units) (pe_lc (own := [("_law_letter", 1)]) (g := gName 1) (by rfl) scLLabel.nd (pi_str (pv 0)) (blkOk_by (own := [("_law_letter", 1)]) (N := ["_law_thing", "_law_letter"]) (sc := defScope sLLabel) (by decide +kernel))
          (fun _ _ _ _ _ => pg_name (i := 1) scLLabel.nd rfl (Or.inl rfl)) (fun _ _ _ _ _ => pts_one (pt_cmpR op_notIn_sign (pv 1) pe_str (by rfl))) (fun _ _ _ _ _ => pv 1)) (pe_lst pa_nil) (nomark _)))), ?_⟩
    refine ⟨_, rfl, x, _, _, _, _, rfl, .ty _, hk.ty, kit_ty (kit_str hk.kits), _, rfl, ?_⟩
    cases hk with
    | str z =>
      obtain ⟨hok, hz⟩ := hz z rfl
      refine iteF ?_
      refine ⟨_, rfl, z, rfl, Nat.le_of_lt (small1000 (by omega)), _, _, rfl, rfl, _, rfl, ?_⟩
      refine ite2 (fun h1 => ?_) (fun h1 => ?_)
      · have h1 : (1 : Int) ≤ (z.length : Nat) := of_decide_eq_true h1
        have h1' : 1 ≤ z.length := by omega
        refine ⟨_, _, rfl, rfl, _, rfl, ?_⟩
        refine ite2 (fun h2 => ?_) (fun h2 => ?_)
        · have h2 : ¬ (z.length : Int) ≤ 6 := fun e => by rw [decide_eq_true e] at h2; cases h2
          have e : labV (.str z) = false := by
            show isLab z = false
            unfold isLab
            rw [decide_eq_false (show ¬ z.length ≤ 6 by omega), Bool.false_and, Bool.and_false]
          rw [e] at k
          exact k H (Same.refl _)
        · have h2 : (z.length : Int) ≤ 6 := Classical.byContradiction fun e => h2 (by rw [decide_eq_false e]; rfl)
          have e : labV (.str z) = z.cps.toList.all isLow := by
            show isLab z = _
            unfold isLab
            rw [decide_eq_true h1', decide_eq_true (show z.length ≤ 6 by omega), Bool.true_and, Bool.true_and]
          rw [e] at k
          have tk : ∀ i c, z.cps[i]? = some c → bad (z.cps.toList.take (i + 1)) = bad (z.cps.toList.take i) ++ (if isLow c then [] else [c]) := fun i c hc => by
            unfold bad
            rw [List.take_add_one, Array.getElem?_toList, hc, List.filter_append]
            cases q : isLow c <;> simp [q]
          have sz : z.cps.toList.take z.cps.size = z.cps.toList := by rw [List.take_of_length_le (by simp)]
          refine ⟨_, rfl, z, rfl, fun D hD => lc_str (z := z) (fun i H3 => Same H H3 ∧ H3 D = some (.lst ((bad (z.cps.toList.take i)).map cV))) ⟨sameUpd (Same.refl _) hD, upd_same⟩ ?_ ?_⟩
          · rintro i c H3 hc ⟨s3, hd⟩
            have hi : i < z.cps.size := (Array.getElem?_eq_some_iff.mp hc).1
            have hz2 : z.cps.size = z.length := rfl
            have t := tk i c hc
            refine ⟨rfl, _, rfl, c, _, rfl, rfl, _, rfl, ?_⟩
            rw [abc_in]
            cases q : isLow c with
            | true =>
              rw [q] at t
              refine (if_neg (by decide)).mpr ⟨s3, ?_⟩
              rw [t]
              exact hd.trans (by simp)
            | false =>
              rw [q] at t
              refine (if_pos (by decide)).mpr ⟨_, rfl, _, hd, small1000 ?_, ?_, ?_⟩
              · rw [List.length_map]
                have l1 : (bad (z.cps.toList.take i)).length ≤ (z.cps.toList.take i).length := List.length_filter_le _ _
                rw [List.length_take] at l1
                omega
              · intro b u e
                rw [upd_ne (ne_of_none e hD)]
                exact s3 b u e
              · rw [upd_same, t]
                simp [cV]
          · rintro H3 ⟨s3, hd⟩
            rw [sz] at hd
            refine ⟨by decide, fun p hp => ?_⟩
            have npd : D ≠ p := ne_of_none hd hp
            have ok : Ok ((bad z.cps.toList).map fun c => SX.S [c]) := fun y hy => by
              obtain ⟨c, hc, rfl⟩ := List.mem_map.mp hy
              have hc2 : c ∈ z.cps.toList := (List.mem_filter.mp hc).1
              unfold PyData.strOk at hok ⊢
              rw [← Array.all_toList] at hok
              have := List.all_eq_true.mp hok c hc2
              simpa using this
            refine ⟨.list (dS ((bad z.cps.toList).map fun c => SX.S [c])), .list [], .lst (SqL.of (xs := ((bad z.cps.toList).map fun c => SX.S [c]).map V.str) (by rw [upd_ne npd, ← map_cV]; exact hd)) (dp_strs _), .lst (SqL.of upd_same) .nil, shaped_list ok, by decide, ?_⟩
            rw [eqv_nil]
            have e2 : ((bad z.cps.toList).map fun c => SX.S [c]).isEmpty = z.cps.toList.all isLow := by rw [List.isEmpty_map, bad_nil]
            rw [e2]
            exact k _ (sameUpd s3 hp)
      · have h1 : ¬ (1 : Int) ≤ (z.length : Nat) := fun e => h1 (decide_eq_true e)
        have e : labV (.str z) = false := by
          show isLab z = false
          unfold isLab
          rw [decide_eq_false (show ¬ 1 ≤ z.length by omega), Bool.false_and]
        rw [e] at k
        exact ⟨_, rfl, iteT (k H (Same.refl _))⟩
    | int i => exact iteT (k H (Same.refl _))
    | bl b => exact iteT (k H (Same.refl _))
    | non => exact iteT (k H (Same.refl _))
    | lst a xs h => exact iteT (k H (Same.refl _))
    | tup a xs h => exact iteT (k H (Same.refl _))
    | dct a xs h => exact iteT (k H (Same.refl _))
def Fine (z : Str) : Prop := PyData.strOk z = true ∧ z.length ≤ 40
def spOdd : Sp := fun vs H Q _ => ∃ p q : Addr, vs = [.ref p] ∧ HandAt H p q ∧ ∀ (x : V) (n : String) (H' : Hp), Kd H' x n → (∀ z, x = .str z → Fine z) → HandAt H' p q → Keep H H' p → Q x H'
theorem fine_up {z : Str} (h : Low z) (l : z.length ≤ 20) : Fine (PySem.Txt.upper z) := by
  have a : ∀ c ∈ z.cps.toList, c < 128 := fun c hc => by have := h c hc; omega
  rw [PyProof.Rows.upper_ascii a]
  refine ⟨?_, ?_⟩
  · unfold PyData.strOk
    rw [← Array.all_toList, Array.toList_map, List.all_map]
    refine List.all_eq_true.mpr fun c hc => decide_eq_true ?_
    have h1 := h c hc
    show PyProof.Rows.up1 c < 0x110000
    unfold PyProof.Rows.up1
    split <;> omega
  · show (z.cps.map _).size ≤ 40
    rw [Array.size_map]
    have e : z.cps.size = z.length := rfl
    omega
theorem none2 {H : Hp} {a b : Addr} {o : HO} (h : upd H a o b = none) : H b = none ∧ b ≠ a := by
  have n : b ≠ a := fun e => by rw [e, upd_same] at h; cases h
  rw [upd_ne n] at h
  exact ⟨h, n⟩
theorem fine_low {z : Str} (h : Low z) (l : z.length ≤ 20) : Fine z := ⟨low_ok h, by omega⟩
theorem fine_app {a b : Str} (h : Fine a) (l : a.length ≤ 20) (hb : PyData.strOk b = true) (lb : b.length ≤ 20) : Fine (a ++ b) := by
  refine ⟨?_, by rw [len_app]; omega⟩
  have h1 := h.1
  unfold PyData.strOk at h1 hb ⊢
  rw [← Array.all_toList] at h1 hb ⊢
  rw [cps_app, List.all_append, h1, hb]
  rfl
theorem scOdd : FnScope ["_law_hand_here", "_law_word_here"] ["_law_hand_here"] (defScope sOdd) := ⟨rfl, rfl, rfl, by decide +kernel, rfl, by decide +kernel, by decide +kernel⟩
theorem ok_odd {f : Addr} {fd : FuncData} (F : Fun K "_law_odd" "_law_odd" sOdd f fd) (m : mg "_law_odd" = some (.ref f)) (W : HasF P w K mg base "_law_word" 3 ["_law_hand_here", "_law_most"] spWord) (O : HasF P w K mg base "_law_one" 3 ["_law_hand_here", "_law_rows"] spOne) : HasF P w K mg base "_law_odd" 4 ["_law_hand_here"] spOdd := by
  refine ⟨f, fd, ?_, m, F.kp, F.binds fun _ _ _ _ _ _ us hl => match us, hl with | [_], _ => rfl⟩
  obtain ⟨f2, fd2, W⟩ := W; obtain ⟨f3, fd3, O⟩ := O
  refine F.ok scOdd (fun vs H Q E h => ?_) (fun cdv A outer s H vs Q E hr h => ?_)
  · obtain ⟨a, b, rfl, _⟩ := h
    rfl
  · obtain ⟨p, q, rfl, hp, k⟩ := h
    refine ⟨_, pss_cons (ps_set (i := 1) scOdd.nd rfl (Or.inl rfl) (pe_call W.G hr (by rfl) W.m W.kp W.b .nil pass0 (pa_cons (pv 0) (pa_cons pe_int pa_nil))))
      (pss_one (ps_ret (pe_call O.G hr (by rfl) O.m O.kp O.b .nil pass0 (pa_cons (pv 0) (pa_cons (pe_lst (pa_cons pe_non (pa_cons pe_int (pa_cons pe_bl (pa_cons pe_str (pa_cons (pe_upper (pv 1)) (pa_cons (pe_op op_add_str (pv 1) pe_str) (pa_cons (pe_op op_add_str (pv 1) pe_str) (pa_cons (pe_tup (pa_cons (pv 1) pa_nil)) (pa_cons (pe_lst (pa_cons (pv 1) pa_nil)) (pa_cons (pe_un un_neg pe_int) (pa_cons (pe_op op_add_str (pv 1) pe_str) (pa_cons (pv 1) (pa_cons (pe_disp (pps_cons (pv 1) (pv 1) pps_nil) (by rfl) (by rfl) (fun z => by cases z) (by decide)) pa_nil)))))))))))))) pa_nil))))), ?_⟩
    refine ⟨_, rfl, p, q, 5, rfl, hp, by decide, by decide, fun z H1 z0 z1 low hp1 k1 => ?_⟩
    have z1 : z.length ≤ 5 := z1
    have add : ∀ t : Str, t.length ≤ 20 → z.length + t.length ≤ sizeLine := fun t ht => Nat.le_of_lt (small1000 (by omega))
    refine ⟨_, rfl, _, rfl, ⟨_, rfl⟩, _, rfl, rfl, by omega, _, rfl, _, _, rfl, rfl, add _ (by decide +kernel), _, rfl, _, _, rfl, rfl, add _ (by decide +kernel), _, rfl, (by show 1 ≤ sizeLine; decide), fun t ht => ?_⟩
    refine ⟨_, rfl, (by show 1 ≤ sizeLine; decide), fun l hl => ?_⟩
    refine ⟨_, rfl, _, rfl, _, _, rfl, rfl, add _ (by decide +kernel), _, rfl, fun d hd => ?_⟩
    refine ⟨_, rfl, _, rfl, upd_same, [(Sum.inr z, .str z)], rfl, (by show 1 ≤ 15; decide), (by show 13 ≤ sizeLine; decide), fun r hr => ?_⟩
    rw [upd_upd] at hr ⊢
    obtain ⟨hl0, lt⟩ := none2 hl
    obtain ⟨hd1, dl⟩ := none2 hd
    obtain ⟨hd0, dt⟩ := none2 hd1
    obtain ⟨hr2, rd⟩ := none2 hr
    obtain ⟨hr1, rl⟩ := none2 hr2
    obtain ⟨hr0, rt⟩ := none2 hr1
    have back : ∀ a, H1 a = none → H a = none := fun a h => by
      cases e : H a with
      | none => rfl
      | some o => exact absurd h (by rw [k1 a o e (hp1.ap h)]; exact fun z => nomatch z)
    refine ⟨p, q, r, _, rfl, (((hp1.upd (hp1.ap ht) (hp1.aq ht)).upd (hp1.ap hl0) (hp1.aq hl0)).upd (hp1.ap hd0) (hp1.aq hd0)).upd (hp1.ap hr0) (hp1.aq hr0), upd_same, hp1.ap hr0, (by show 0 < 13; decide), (by show 13 ≤ 1000; decide), fun x H5 hx hp5 k5 => ?_⟩
    have kk : Keep H H5 p := (keepUpd (keepUpd (keepUpd (keepUpd k1 (back t ht)) (back l hl0)) (back d hd0)) (back r hr0)).trans k5
    have at_t : H5 t = some (.tup [.str z]) := k5 t _ (by rw [upd_ne rt.symm, upd_ne dt.symm, upd_ne lt.symm, upd_same]) (hp1.ap ht)
    have at_l : H5 l = some (.lst [.str z]) := k5 l _ (by rw [upd_ne rl.symm, upd_ne dl.symm, upd_same]) (hp1.ap hl0)
    have at_d : H5 d = some (.dK (mergeK [] [(Sum.inr z, .str z)])) := k5 d _ (by rw [upd_ne rd.symm, upd_same]) (hp1.ap hd0)
    have fz : Fine z := fine_low low (by omega)
    have nt : ∀ (a : Addr) (y : Str), (.ref a : V) = .str y → Fine y := fun a y e => nomatch e
    have st : ∀ (u : Str), Fine u → ∀ y, (.str u : V) = .str y → Fine y := fun u h y e => by cases e; exact h
    simp only [List.mem_cons, List.not_mem_nil, or_false] at hx
    rcases hx with e | e | e | e | e | e | e | e | e | e | e | e | e <;> subst e
    · exact k _ _ _ .non (fun y e => nomatch e) hp5 kk
    · exact k _ _ _ (.int _) (fun y e => nomatch e) hp5 kk
    · exact k _ _ _ (.bl _) (fun y e => nomatch e) hp5 kk
    · exact k _ _ _ (.str _) (st _ ⟨by decide +kernel, by decide +kernel⟩) hp5 kk
    · exact k _ _ _ (.str _) (st _ (fine_up low (by omega))) hp5 kk
    · exact k _ _ _ (.str _) (st _ (fine_app fz (by omega) (by decide +kernel) (by decide +kernel))) hp5 kk
    · exact k _ _ _ (.str _) (st _ (fine_app fz (by omega) (by decide +kernel) (by decide +kernel))) hp5 kk
    · exact k _ _ _ (.tup _ _ at_t) (nt t) hp5 kk
    · exact k _ _ _ (.lst _ _ at_l) (nt l) hp5 kk
    · exact k _ _ _ (.int _) (fun y e => nomatch e) hp5 kk
    · exact k _ _ _ (.str _) (st _ (fine_app fz (by omega) (by decide +kernel) (by decide +kernel))) hp5 kk
    · exact k _ _ _ (.str _) (st _ fz) hp5 kk
    · exact k _ _ _ (.dct _ _ at_d) (nt d) hp5 kk
end
end Kx

set_option maxHeartbeats 4000000
namespace Kx
open PySem L2
/-! own errors with fields -/
/-- __init__ of such an error: both are stored -/
def spInit2 (K : PySem.W.Frag) (C : Addr) (f1 f2 : Str) : Sp := fun vs H Q _ => ∃ (a : Addr) (y z : V), vs = [.ref a, y, z] ∧ OexC K C ∧ PySem.W.findIn K (.ref C) f1 = some none ∧ PySem.W.findIn K (.ref C) f2 = some none ∧ H a = some (exo a C none) ∧
  ∀ (d : Addr) (H' : Hp), H d = none → d ≠ a → H' a = some (exo a C (some d)) → H' d = some (exd d [(f2, z), (f1, y)]) → (∀ b o, H b = some o → b ≠ a → H' b = some o) → Q .non H'
section
variable {P : Program} {w : World} {K : PySem.W.Frag} {mg : Str → Option Value} {base : Heap}
theorem scBadKinds : FnScope ["self", "index", "what"] ["self", "index", "what"] (defScope sBadKinds_init) := ⟨rfl, rfl, rfl, by decide +kernel, rfl, by decide +kernel, by decide +kernel⟩
theorem ok_BadKinds {f C : Addr} {fd : FuncData} (F : Fun K "__init__" "BadKinds.__init__" sBadKinds_init f fd) : FnOk P w K mg base CX0 1 f fd ["self", "index", "what"] (spInit2 K C "index" "what") := by
  refine F.ok scBadKinds (fun vs H Q E h => ?_) (fun cdv A outer s H vs Q E hr h => ?_)
  · obtain ⟨a, y, z, rfl, _⟩ := h
    rfl
  · obtain ⟨a, y, z, rfl, T, n1, n2, ha, k⟩ := h
    refine ⟨_, pss_cons (ps_ost (pv 0) (pv 1)) (pss_one (ps_ost (pv 0) (pv 2))), ?_⟩
    refine ⟨_, rfl, _, rfl, a, C, rfl, T, n1, .inl ⟨ha, fun dx hdx ne => ?_⟩⟩
    refine ⟨_, rfl, _, rfl, a, C, rfl, T, n2, .inr ⟨dx, _, upd_same, by rw [upd_ne ne, upd_same], (by show 1 ≤ 900; decide), ?_⟩⟩
    refine k dx _ hdx ne (by rw [upd_ne ne.symm, upd_same]) upd_same fun b o e nb => ?_
    rw [upd_ne (ne_of_none e hdx), upd_ne nb, upd_ne (ne_of_none e hdx)]
    exact e
/-- __init__ of an error with one field -/
def spInit1 (K : PySem.W.Frag) (C : Addr) (f1 : Str) : Sp := fun vs H Q _ => ∃ (a : Addr) (y : V), vs = [.ref a, y] ∧ OexC K C ∧ PySem.W.findIn K (.ref C) f1 = some none ∧ H a = some (exo a C none) ∧
  ∀ (d : Addr) (H' : Hp), H d = none → d ≠ a → H' a = some (exo a C (some d)) → H' d = some (exd d [(f1, y)]) → (∀ b o, H b = some o → b ≠ a → H' b = some o) → Q .non H'
theorem scBadYears : FnScope ["self", "years"] ["self", "years"] (defScope sBadYears_init) := ⟨rfl, rfl, rfl, by decide +kernel, rfl, by decide +kernel, by decide +kernel⟩
theorem ok_BadYears {f C : Addr} {fd : FuncData} (F : Fun K "__init__" "BadYears.__init__" sBadYears_init f fd) : FnOk P w K mg base CX0 1 f fd ["self", "years"] (spInit1 K C "years") := by
  refine F.ok scBadYears (fun vs H Q E h => ?_) (fun cdv A outer s H vs Q E hr h => ?_)
  · obtain ⟨a, y, rfl, _⟩ := h
    rfl
  · obtain ⟨a, y, rfl, T, n1, ha, k⟩ := h
    refine ⟨_, pss_one (ps_ost (pv 0) (pv 1)), ?_⟩
    refine ⟨_, rfl, _, rfl, a, C, rfl, T, n1, .inl ⟨ha, fun dx hdx ne => ?_⟩⟩
    refine k dx _ hdx ne upd_same (by rw [upd_ne ne, upd_same]) fun b o e nb => ?_
    rw [upd_ne nb, upd_ne (ne_of_none e hdx)]
    exact e
/-- __init__ of an error with three fields -/
def spInit3 (K : PySem.W.Frag) (C : Addr) (f1 f2 f3 : Str) : Sp := fun vs H Q _ => ∃ (a : Addr) (x y z : V), vs = [.ref a, x, y, z] ∧ OexC K C ∧ PySem.W.findIn K (.ref C) f1 = some none ∧ PySem.W.findIn K (.ref C) f2 = some none ∧ PySem.W.findIn K (.ref C) f3 = some none ∧ H a = some (exo a C none) ∧
  ∀ (d : Addr) (H' : Hp), H d = none → d ≠ a → H' a = some (exo a C (some d)) → H' d = some (exd d [(f3, z), (f2, y), (f1, x)]) → (∀ b o, H b = some o → b ≠ a → H' b = some o) → Q .non H'
theorem scBadHistory : FnScope ["self", "year", "index", "what"] ["self", "year", "index", "what"] (defScope sBadHistory_init) := ⟨rfl, rfl, rfl, by decide +kernel, rfl, by decide +kernel, by decide +kernel⟩
theorem ok_BadHistory {f C : Addr} {fd : FuncData} (F : Fun K "__init__" "BadHistory.__init__" sBadHistory_init f fd) : FnOk P w K mg base CX0 1 f fd ["self", "year", "index", "what"] (spInit3 K C "year" "index" "what") := by
  refine F.ok scBadHistory (fun vs H Q E h => ?_) (fun cdv A outer s H vs Q E hr h => ?_)
  · obtain ⟨a, x, y, z, rfl, _⟩ := h
    rfl
  · obtain ⟨a, x, y, z, rfl, T, n1, n2, n3, ha, k⟩ := h
    refine ⟨_, pss_cons (ps_ost (pv 0) (pv 1)) (pss_cons (ps_ost (pv 0) (pv 2)) (pss_one (ps_ost (pv 0) (pv 3)))), ?_⟩
    refine ⟨_, rfl, _, rfl, a, C, rfl, T, n1, .inl ⟨ha, fun dx hdx ne => ?_⟩⟩
    refine ⟨_, rfl, _, rfl, a, C, rfl, T, n2, .inr ⟨dx, _, upd_same, by rw [upd_ne ne, upd_same], (by show 1 ≤ 900; decide), ?_⟩⟩
    refine ⟨_, rfl, _, rfl, a, C, rfl, T, n3, .inr ⟨dx, _, by rw [upd_ne ne.symm]; exact upd_same, upd_same, (by show 2 ≤ 900; decide), ?_⟩⟩
    refine k dx _ hdx ne (by rw [upd_ne ne.symm, upd_ne ne.symm, upd_same]) upd_same fun b o e nb => ?_
    rw [upd_ne (ne_of_none e hdx), upd_ne (ne_of_none e hdx), upd_ne nb, upd_ne (ne_of_none e hdx)]
    exact e
end
/-- what is known of an error's class -/
structure ErC (P : Program) (w : World) (K : PySem.W.Frag) (mg : Str → Option Value) (base : Heap) (x : Str) (ps : List Str) (C fI : Addr) (fd : FuncData) (sp : Sp) : Prop where
  T : OexC K C
  iC : PySem.W.findIn K (.ref C) "__init__" = some (some (.ref fI))
  tI : PySem.W.typeIn K (.ref fI) = some (.type "function")
  gC : mg x = some (.ref C)
  b : Binds K fd ps []
  G : FnOk P w K mg base CX0 1 fI fd ps sp
  xf : XfC K C
theorem fin2 {K : PySem.W.Frag} {C : Addr} {f1 f2 : Str} (T : OexC K C) (n1 : PySem.W.findIn K (.ref C) f1 = some none) (n2 : PySem.W.findIn K (.ref C) f2 = some none) {H : Hp} {y z : V} {Q : XK} (q : ∀ d H', H d = none → Same H H' → H' d = some (.xd [(f2, z), (f1, y)]) → Q (.ref C) (some d) H') :
    [y, z].length ≤ 1000 ∧ ∀ a, H a = none → spInit2 K C f1 f2 (.ref a :: ([y, z] ++ [])) (upd H a (exo a C none)) (fun v H2 => v = .non ∧ ∃ (d : Addr) (fs : List (Str × V)), H2 a = some (exo a C (some d)) ∧ H2 d = some (exd d fs) ∧ H d = none ∧ Q (.ref C) (some d) (upd (del H2 a) d (.xd fs))) (fun _ _ _ => False) := by
  refine ⟨(by show 2 ≤ 1000; decide), fun a ha => ⟨a, y, z, rfl, T, n1, n2, upd_same, fun d H' hd ne ea ed kp => ⟨rfl, d, _, ea, ed, ?_, ?_⟩⟩⟩
  · rw [upd_ne ne] at hd
    exact hd
  · rw [upd_ne ne] at hd
    refine q d _ hd (fun b o e => ?_) upd_same
    have nba := ne_of_none e ha
    rw [upd_ne (ne_of_none e hd), del_ne nba]
    exact kp b o (by rw [upd_ne nba]; exact e) nba
theorem fin1 {K : PySem.W.Frag} {C : Addr} {f1 : Str} (T : OexC K C) (n1 : PySem.W.findIn K (.ref C) f1 = some none) {H : Hp} {y : V} {Q : XK} (q : ∀ d H', H d = none → Same H H' → H' d = some (.xd [(f1, y)]) → Q (.ref C) (some d) H') :
    [y].length ≤ 1000 ∧ ∀ a, H a = none → spInit1 K C f1 (.ref a :: ([y] ++ [])) (upd H a (exo a C none)) (fun v H2 => v = .non ∧ ∃ (d : Addr) (fs : List (Str × V)), H2 a = some (exo a C (some d)) ∧ H2 d = some (exd d fs) ∧ H d = none ∧ Q (.ref C) (some d) (upd (del H2 a) d (.xd fs))) (fun _ _ _ => False) := by
  refine ⟨(by show 1 ≤ 1000; decide), fun a ha => ⟨a, y, rfl, T, n1, upd_same, fun d H' hd ne ea ed kp => ⟨rfl, d, _, ea, ed, ?_, ?_⟩⟩⟩
  · rw [upd_ne ne] at hd
    exact hd
  · rw [upd_ne ne] at hd
    refine q d _ hd (fun b o e => ?_) upd_same
    have nba := ne_of_none e ha
    rw [upd_ne (ne_of_none e hd), del_ne nba]
    exact kp b o (by rw [upd_ne nba]; exact e) nba
end Kx

set_option maxHeartbeats 4000000
namespace Kx
open PySem PySem.Spec PyProof.Rows L2
/-! enumerate of a tuple -/
theorem meets_enum1 {v : Value} {o : Obj} {H : Heap → Prop} (B : Begins v o H) : Meets (Builtin.«enumerate.__new__» ⟨[.type "enumerate", v], []⟩) (fun _ R s => H s.heap ∧
    R (.ok (.ret (.ref (s.heap.push o).objs.size))) { s with heap := (s.heap.push o).push { cls := .type "enumerate", data := .fields #[.none, .bool false, .ref s.heap.objs.size, rawInt 0, .none, .none] } }) :=
  .of_wp fun prog w A R s got => by
    obtain ⟨hp, g, d, tk, os⟩ := s
    obtain ⟨there, got⟩ := got
    have sub := sub_enumerate
    have step : ∀ {A' : Around} {E : Value → Shared → Prop} {Q : Value → Shared → Prop}, Q (.ref hp.objs.size) ⟨hp.push o, g, d, tk, os⟩ → wpAny (model prog w) A' (pyIter v) Q E ⟨hp, g, d, tk, os⟩ := fun q => B.iter prog w _ _ ⟨hp, g, d, tk, os⟩ _ there q
    wp_walk using step
    refine wpAny_stack_any fun st => wpAny_pure ?_
    split
    · rename_i c _ _ _ _ _
      cases (c == Value.type "enumerate") <;> (wp_walk using step; exact ⟨_, rfl, got⟩)
    · wp_walk using step; exact ⟨_, rfl, got⟩
theorem call_enum1 {prog : Program} {w : World} {A : Around} {E : Value → Shared → Prop} {s : Shared} {v : Value} {o : Obj} {H : Heap → Prop} {Q : Value → Shared → Prop} (B : Begins v o H) (there : H s.heap)
    (next : ∀ h', IsEnum h' (s.heap.objs.size + 1) s.heap.objs.size 0 .none → h'.get? s.heap.objs.size = some o → (∀ b o, s.heap.get? b = some o → h'.get? b = some o) → Q (.ref (s.heap.objs.size + 1)) { s with heap := h' }) :
    wpAny (model prog w) A (call (.type "enumerate") [v]) Q E s := by
  refine callType_new F.called_enumerate (by decide) (F.typeCall_enumerate_1 _) (F.newCall_enumerate_1 _) (fun obj => F.args_object_init_2 obj _) F.entry_enumerate_new (meets_enum1 B) ⟨there, ?_⟩
  have z : (s.heap.push o).objs.size = s.heap.objs.size + 1 := Heap.size_push ..
  show _ ∧ _
  rw [z]
  have he : IsEnum ((s.heap.push o).push { cls := .type "enumerate", data := .fields #[.none, .bool false, .ref s.heap.objs.size, rawInt 0, .none, .none] }) (s.heap.objs.size + 1) s.heap.objs.size 0 .none := by
    have q := Heap.get?_push_size (s.heap.push o) (o := { cls := .type "enumerate", data := .fields #[.none, .bool false, .ref s.heap.objs.size, rawInt 0, .none, .none] }) rfl
    rw [z] at q
    exact q
  exact ⟨⟨_, he, rfl⟩, next _ he (Heap.get?_push_of_some _ (Heap.get?_push_size _ B.free)) fun b o x => Heap.get?_push_of_some _ (Heap.get?_push_of_some _ x)⟩
/-- the tuple at a, each item in a new pair -/
def IteT (K : PySem.W.Frag) (a : Addr) : It :=
  ⟨fun i H => ∃ (xs : List V) (x : V), SqT K H a xs ∧ xs[i]? = some x, fun i H v H' => ∃ T x, v = .ref T ∧ H T = none ∧ H' = upd H T (.tup [.int (i : Nat), x]) ∧ ∀ xs, SqT K H a xs → xs[i]? = some x, fun i H => ∃ xs : List V, SqT K H a xs ∧ xs.length = i⟩
theorem turn_enumT {P : Program} {w : World} {K : PySem.W.Frag} {elts : List Expr} {kk : Nat} {tpos : Pos} (a e it : Addr) :
    Turn P w K (.Tuple elts kk tpos) (IteT K a) [e, it] e (fun i h => (∃ old, IsEnum h e it ((i : Nat) : Int) old) ∧ h.IsTupleIter it a i ∧ e ≠ it ∧ a ≠ it ∧ a ≠ e) where
  mem := by simp
  obj := fun i h st b hb => by
    obtain ⟨⟨old, he⟩, ⟨o, ho, hc, hd⟩, _⟩ := st
    have e' : b = e ∨ b = it := by simpa using hb
    rcases e' with z | z <;> rw [z]
    · exact ⟨_, he, fun v q => nomatch q⟩
    · exact ⟨o, ho, fun v q => by rw [hd] at q; cases q⟩
  keep := fun i h h' st k => let ⟨⟨old, he⟩, hi, r⟩ := st; ⟨⟨old, k e (by simp) _ he⟩, hi.at fun o q => k it (by simp) o q, r⟩
  item := by
    rintro X rfl rfl rfl hc i pins s σ H E I hf ⟨⟨old, he⟩, hit, hne, hai, hae⟩ ⟨xs, x, hq, hx⟩
    obtain ⟨its, rv, p, hz⟩ := I.tuple hq
    obtain ⟨u, hu, ru⟩ := rv.get hx
    have hel : e < s.heap.objs.size := Heap.lt_size he
    have hil : it < s.heap.objs.size := by obtain ⟨_, q, _⟩ := hit; exact Heap.lt_size q
    have lt : i < its.toArray.size := by simpa using (List.getElem?_eq_some_iff.mp hu).1
    have D := Draws.tuple (prog := X.prog) (w := X.w) (A := X.A.in1) (I.ok.hd hc) it a hai its.toArray
    refine wpAny_pyNext_enum_itemC D he ⟨hit, p⟩ lt hne (by simp [hne, hae.symm]) fun v h' tk hv ho st' hT hsz hk => ?_
    obtain rfl : v = u := by
      have q : its.toArray[i]? = some v := hv
      rw [List.getElem?_toArray, hu] at q
      exact (Option.some.inj q).symm
    refine ⟨_, rfl, wpAny_letOwnedTupleGo_enum (s := { s with heap := h', toks := tk + 1 }) ho fun h'' he' sb => ?_⟩
    have hT2 : h''.get? s.heap.objs.size = some { cls := .type "tuple", data := .seq #[.int i tk, v] } := (sb.2 _ (Nat.ne_of_gt hel)).trans hT
    have new : ObjOk X.prog X.w (upd H s.heap.objs.size (.tup [.int (i : Nat), x])) h'' s.heap.objs.size (.tup [.int (i : Nat), x]) := ⟨by show 2 ≤ sizeLine; decide, [.int i tk, v], .cons ⟨_, rfl⟩ (.cons ru .nil), ⟨_, hT2, rfl, _, rfl⟩⟩
    have I1 : Inv X pins σ (upd H s.heap.objs.size (.tup [.int (i : Nat), x])) { s with heap := h'', toks := tk + 1 } :=
      I.turnedNew (ch := [e, it]) (fun b ob hb q => (sb.2 b (fun z => hb (by simp [z]))).trans (hk b ob (fun z => hb (by simp [z])) (fun z => hb (by simp [z])) q)) hf (Nat.le_refl _) new
    refine ⟨.ref s.heap.objs.size, _, I1, rfl, ⟨_, x, rfl, I.hok.fresh (Nat.le_refl _), rfl, fun ys hy => ?_⟩, ⟨⟨v, he'⟩, st'.1.at fun o q => (sb.2 it (Ne.symm hne)).trans q, hne, hai, hae⟩, fun b hb => ?_⟩
    · rw [I.tuple_inj hy hq]
      exact hx
    · have lt : b < s.heap.objs.size := by
        have e' : b = e ∨ b = it := by simpa using hb
        rcases e' with z | z <;> rw [z]
        · exact hel
        · exact hil
      rw [upd_ne (Nat.ne_of_lt lt)]
      exact (hf b hb).1
  done := by
    rintro X rfl rfl rfl hc i pins s σ H E I hf ⟨⟨old, he⟩, hit, hne, hai, hae⟩ ⟨xs, hq, hx⟩
    obtain ⟨its, rv, p, hz⟩ := I.tuple hq
    obtain ⟨f0, f1, f2, f3, f4, f5⟩ := hf it (by simp)
    have hl := rv.length
    have D := Draws.tuple (prog := X.prog) (w := X.w) (A := X.A.in1) (I.ok.hd hc) it a hai its.toArray
    have n : its.toArray.size = i := by rw [List.size_toArray, ← hl, hx]
    rw [n] at D
    exact wpAny_pyNext_enum_endD D he ⟨hit, p⟩ fun h' eb => ⟨rfl, I.turned (t' := s.toks) (fun b o hb q => eb b o hb q) f0 f1 f3 f4 f5⟩
  self := fun A i s Q E st h => let ⟨⟨_, he⟩, _⟩ := st; wpAny_pyIter_enum he h
/-- enumerate of a list or a tuple -/
def iEnumB (K : PySem.W.Frag) (ta : TA) : TI := fun σ H R => ta σ H fun vs H1 => ∃ a xs, vs = [.ref a] ∧ ((SqL K H1 a xs ∧ R (Ite K a) H1) ∨ (SqT K H1 a xs ∧ R (IteT K a) H1))
theorem pi_enumB {X : Cx} {e : Expr} {ta : TA} {p pos tpos : Pos} {elts : List Expr} {kk : Nat} (hg : Gl X "enumerate") (hm : X.mg "enumerate" = none) (ha : PA X [e] ta) (hs : starEach [e] X.env = [(false, eval e X.env)] := by rfl) :
    PI X (.Tuple elts kk tpos) (.Call (.Name "enumerate" p) [e] [] pos) (iEnumB X.K ta) := by
  refine ⟨fun pins s σ H R I h => Call_ (ld_blt I hg hm boot_enumerate (callWith_type1 (thn (ha.run pos pins s σ H _ I h) fun us s1 ⟨vs, H1, I1, r1, q1⟩ => ?_) hs rfl))⟩
  obtain ⟨a, xs, rfl, q⟩ := q1
  rw [Vals.ref1 r1]
  have fresh : ∀ {h' : Heap}, (∀ b o, s1.heap.get? b = some o → h'.get? b = some o) → Inv X pins σ H1 { s1 with heap := h' } := fun hk => I1.kept (t' := s1.toks) hk
  have fp : ∀ b ∈ [s1.heap.objs.size + 1, s1.heap.objs.size], FpOk X pins H1 b := fun b hb => by
    have e' : b = s1.heap.objs.size + 1 ∨ b = s1.heap.objs.size := by simpa using hb
    have le : s1.heap.objs.size ≤ b := by
      rcases e' with z | z <;> rw [z]
      · exact Nat.le_succ _
      · exact Nat.le_refl _
    exact I1.fpOk le (I1.hok.fresh le)
  rcases q with ⟨hq, q⟩ | ⟨hq, q⟩
  · obtain ⟨its, rv, pl, hz⟩ := I1.list hq
    exact call_enumerate_list pl.isList fun h' he hit hsz hk => wpAny_pyIter_enum he ⟨_, _, _, _, H1, rfl, fresh hk, turn_enum a (s1.heap.objs.size + 1) s1.heap.objs.size, ⟨⟨.none, he⟩, hit, Nat.succ_ne_self _⟩, fp, q⟩
  · obtain ⟨its, rv, pl, hz⟩ := I1.tuple hq
    obtain ⟨oa, ho, _⟩ := id pl
    have lt : a < s1.heap.objs.size := Heap.lt_size ho
    exact call_enum1 (begins_tuple a its.toArray) pl fun h' he hit hk => wpAny_pyIter_enum he ⟨_, _, _, _, H1, rfl, fresh hk, turn_enumT a (s1.heap.objs.size + 1) s1.heap.objs.size, ⟨⟨.none, he⟩, ⟨_, hit, rfl, rfl⟩, Nat.succ_ne_self _, Nat.ne_of_lt lt, Nat.ne_of_lt (Nat.lt_succ_of_lt lt)⟩, fp, q⟩
/-- what a for loop over J asks -/
abbrev Runs (J : It) (g : TG) (tb : TS) (D : Ends) (σ : L2.St) (H : Hp) : Prop := ∃ U : Nat → Nat → L2.St → Hp → Prop, (∃ m, U 0 m σ H) ∧ ∀ i m σ H, U i m σ H → (J.stop i H ∧ D.nx σ H) ∨ (J.go i H ∧ ∃ N : L2.St → Hp → Prop, (∀ σ' H', N σ' H' → ∃ m', m' < m ∧ U (i + 1) m' σ' H') ∧
  ∀ x H', J.yld i H x H' → g x σ H' fun σ2 H2 => tb { D with nx := N, ct := N, bk := D.nx } σ2 H2)
/-- over enumerate of a list or a tuple that stands still -/
theorem for_enumB {K : PySem.W.Frag} {a : Addr} {xs : List V} {g : TG} {tb : TS} {D : Ends} {σ : L2.St} {H : Hp} (W : Nat → L2.St → Hp → Prop) (start : W 0 σ H) (still : (∀ i σ H, W i σ H → SqL K H a xs) ∨ (∀ i σ H, W i σ H → SqT K H a xs))
    (turn : ∀ i x σ H T, xs[i]? = some x → W i σ H → H T = none → g (.ref T) σ (upd H T (.tup [.int (i : Nat), x])) fun σ2 H2 => tb { D with nx := W (i + 1), ct := W (i + 1), bk := D.nx } σ2 H2) (after : ∀ σ H, W xs.length σ H → D.nx σ H) :
    (SqL K H a xs ∧ Runs (Ite K a) g tb D σ H) ∨ (SqT K H a xs ∧ Runs (IteT K a) g tb D σ H) := by
  rcases still with still | still
  · refine .inl ⟨still _ _ _ start, fun i m σ H => m + i = xs.length ∧ W i σ H, ⟨xs.length, by omega, start⟩, fun i m σ H u => ?_⟩
    obtain ⟨e, u⟩ := u
    cases m with
    | zero =>
      obtain rfl : i = xs.length := by omega
      exact .inl ⟨⟨xs, still _ _ _ u, Nat.le_refl _⟩, after _ _ u⟩
    | succ m =>
      have lt : i < xs.length := by omega
      refine .inr ⟨⟨xs, xs[i], still _ _ _ u, List.getElem?_eq_getElem lt⟩, W (i + 1), fun σ' H' u' => ⟨m, Nat.lt_succ_self _, by omega, u'⟩, fun x H' y => ?_⟩
      obtain ⟨T, z, rfl, free, rfl, same⟩ := y
      exact turn i z σ H T (same xs (still _ _ _ u)) u free
  · refine .inr ⟨still _ _ _ start, fun i m σ H => m + i = xs.length ∧ W i σ H, ⟨xs.length, by omega, start⟩, fun i m σ H u => ?_⟩
    obtain ⟨e, u⟩ := u
    cases m with
    | zero =>
      obtain rfl : i = xs.length := by omega
      exact .inl ⟨⟨xs, still _ _ _ u, rfl⟩, after _ _ u⟩
    | succ m =>
      have lt : i < xs.length := by omega
      refine .inr ⟨⟨xs, xs[i], still _ _ _ u, List.getElem?_eq_getElem lt⟩, W (i + 1), fun σ' H' u' => ⟨m, Nat.lt_succ_self _, by omega, u'⟩, fun x H' y => ?_⟩
      obtain ⟨T, z, rfl, free, rfl, same⟩ := y
      exact turn i z σ H T (same xs (still _ _ _ u)) u free
/-- one of two targets' rules -/
theorem pg_or {X : Cx} {t : Expr} {g g' : TG} (h : PG X t g) (h' : PG X t g') : PG X t (fun v σ H Q => g v σ H Q ∨ g' v σ H Q) :=
  ⟨fun pins s σ H v u Q I r q => q.elim (fun q => h.run pins s σ H v u Q I r q) fun q => h'.run pins s σ H v u Q I r q⟩
end Kx

set_option maxHeartbeats 4000000
namespace Kx
open PySem PySem.Spec PyProof.Rows L2
section
variable {X : Cx} {C g : Addr} {sp : Sp} {E : XK} {CXx : CXT} {n : Nat}
/-- an instance as the library's lemmas know it -/
theorem inst_of {pins : List (Addr × Obj)} {σ : L2.St} {H : Hp} {s : Shared} {a dx : Addr} {fs : List (Str × V)} (I : Inv X pins σ H s) (h : H a = some (.ins C dx fs)) : ∃ ox od, PySem.W.InstAt s.heap a ox C od := by
  obtain ⟨mA, J, _⟩ := ins_get I.hok h
  obtain ⟨od, J, _⟩ := J.look
  exact ⟨_, _, J⟩
/-- x in o, o an instance whose class has its own __contains__ -/
def rInOwn (neg : Bool) (C : Addr) (sp : Sp) (E : XK) : R2 := fun x y H Q => ∃ a dx fs, y = .ref a ∧ H a = some (.ins C dx fs) ∧ sp [.ref a, x] H (fun z H' => ∃ b, z = .bl b ∧ Q (.bl (if neg then !b else b)) H') E
theorem op_inOwn (hs : PySem.W.findIn X.K (.ref C) "__contains__" = some (some (.ref g))) (hf : PySem.W.isFn X.K (.ref g) = true) (F : FnR X.prog X.w X.K X.mg X.base CXx n g sp) (hr : Room n X.A) (hx : Passes CXx X E) : OpR X (compareOp .In) (rInOwn false C sp E) := by
  intro pins s σ H x y v u Q I rx ry h
  obtain ⟨a, dx, fs, rfl, ha, q⟩ := h
  obtain rfl : u = Value.ref a := ry
  obtain ⟨ox, od, J⟩ := inst_of I ha
  obtain ⟨m, hF⟩ := I.fr
  refine PySem.W.in_K hF I.ok.mod.kin J hs hf (wpAny_mono (wpAny_call (run_fnR (us := [.ref a, v]) (vs := [.ref a, x]) F hr hx I (.cons rfl (.cons rx .nil)) q)) (fun w s' z => ?_) fun _ _ x => x)
  obtain ⟨z', H', I', rz, b, rfl, qz⟩ := z
  obtain rfl : w = Value.bool b := rz
  exact wpAny_truthy_bool ⟨.bl b, H', I', rfl, qz⟩
theorem op_notInOwn (hs : PySem.W.findIn X.K (.ref C) "__contains__" = some (some (.ref g))) (hf : PySem.W.isFn X.K (.ref g) = true) (F : FnR X.prog X.w X.K X.mg X.base CXx n g sp) (hr : Room n X.A) (hx : Passes CXx X E) : OpR X (compareOp .NotIn) (rInOwn true C sp E) := by
  intro pins s σ H x y v u Q I rx ry h
  obtain ⟨a, dx, fs, rfl, ha, q⟩ := h
  obtain rfl : u = Value.ref a := ry
  obtain ⟨ox, od, J⟩ := inst_of I ha
  obtain ⟨m, hF⟩ := I.fr
  refine PySem.W.notIn_K hF I.ok.mod.kin J hs hf (wpAny_mono (wpAny_call (run_fnR (us := [.ref a, v]) (vs := [.ref a, x]) F hr hx I (.cons rfl (.cons rx .nil)) q)) (fun w s' z => ?_) fun _ _ x => x)
  obtain ⟨z', H', I', rz, b, rfl, qz⟩ := z
  obtain rfl : w = Value.bool b := rz
  exact wpAny_truthy_bool ⟨.bl (!b), H', I', rfl, qz⟩
/-- len(o) by an own __len__ -/
def rLenOwn (C : Addr) (sp : Sp) (E : XK) : List V → Hp → VK → Prop := fun xs H Q => ∃ a dx fs, xs = [.ref a] ∧ H a = some (.ins C dx fs) ∧ sp [.ref a] H (fun z H' => ∃ k : Int, z = .int k ∧ 0 ≤ k ∧ k < 2 ^ 63 ∧ Q (.int k) H') E
theorem call_lenOwn (hs : PySem.W.findIn X.K (.ref C) "__len__" = some (some (.ref g))) (hf : PySem.W.isFn X.K (.ref g) = true) (F : FnR X.prog X.w X.K X.mg X.base CXx n g sp) (hr : Room (n + 1) X.A) (hx : Passes CXx X E) : CallR X (.builtin "len") (rLenOwn C sp E) := by
  intro pins s σ H xs us Q I r h
  obtain ⟨a, dx, fs, rfl, ha, q⟩ := h
  rw [Vals.ref1 r]
  obtain ⟨ox, od, J⟩ := inst_of I ha
  obtain ⟨m, hF⟩ := I.fr
  have run : codeAny (model X.prog X.w) X.A.in1 (.call (.ref g) ⟨[.ref a], []⟩) (fun r s' => match r with | .ok (.ret v) => EP X pins σ (fun z H' => ∃ k : Int, z = .int k ∧ 0 ≤ k ∧ k < 2 ^ 63 ∧ Q (.int k) H') v s' | .ok _ => False | .error e => X.xe e s') s := by
    refine codeAny_mono (F X.A.in1 X.stack s H [.ref a] [.ref a] _ E hr.in1 I.env0.in1 (.cons rfl .nil) q) fun r s' hq => ?_
    rcases r with e | (_ | _ | _ | u)
    · exact hx pins σ H s e s' I hq
    · exact hq.elim
    · exact hq.elim
    · exact hq.elim
    · exact I.after hq
  refine PySem.W.len_K hF I.ok.mod.kin J hs hf (wpAny_mono (wpAny_call run) (fun w s' z => ?_) fun _ _ x => x)
  obtain ⟨z', H', I', rz, k, rfl, k0, k1, qz⟩ := z
  obtain ⟨t, rfl⟩ := (show ∃ t, w = Value.int k t from rz)
  exact ⟨⟨k0, k1⟩, .int k, H', I'.tok _, ⟨_, rfl⟩, qz⟩
/-- o == y by an own __eq__, y any thing that is not of a class below -/
def rEqOwn (K : PySem.W.Frag) (C : Addr) (sp : Sp) (E : XK) : R2 := fun x y H Q => ∃ a dx fs, x = .ref a ∧ H a = some (.ins C dx fs) ∧ ((∃ b dy gs C', y = .ref b ∧ H b = some (.ins C' dy gs) ∧ PySem.W.notFirst K C (.ref C') = true) ∨ (∃ b ys, y = .ref b ∧ H b = some (.tup ys) ∧ PySem.W.notFirst K C (.type "tuple") = true)) ∧
  sp [.ref a, y] H (fun z H' => ∃ b, z = .bl b ∧ Q (.bl b) H') E
theorem op_eqOwn (hs : PySem.W.findIn X.K (.ref C) "__eq__" = some (some (.ref g))) (hf : PySem.W.isFn X.K (.ref g) = true) (F : FnR X.prog X.w X.K X.mg X.base CXx n g sp) (hr : Room n X.A) (hx : Passes CXx X E) : OpR X (compareOp .Eq) (rEqOwn X.K C sp E) := by
  intro pins s σ H x y v u Q I rx ry h
  obtain ⟨a, dx, fs, rfl, ha, hy, q⟩ := h
  obtain rfl : v = Value.ref a := rx
  obtain ⟨ox, od, J⟩ := inst_of I ha
  obtain ⟨m, hF⟩ := I.fr
  have go : ∀ tb, PySem.W.Looks (model X.prog X.w) s.heap (typeOf u) tb → PySem.W.notFirst X.K C tb = true → wpAny (model X.prog X.w) X.A (compareOp .Eq (.ref a) u) (EP X pins σ Q) X.xe s := fun tb hb hn => by
    refine PySem.W.cmp_K (op := .Eq) hr.units0 hF I.ok.mod.kin J hb hn hs hf (wpAny_mono (wpAny_call (run_fnR (us := [.ref a, u]) (vs := [.ref a, y]) F hr hx I (.cons rfl (.cons ry .nil)) q)) (fun w s' z => ?_) fun _ _ x => x)
    obtain ⟨z', H', I', rz, b, rfl, qz⟩ := z
    obtain rfl : w = Value.bool b := rz
    exact ⟨.bl b, H', I', rfl, qz⟩
  rcases hy with ⟨b, dy, gs, C', rfl, hb, hn⟩ | ⟨b, ys, rfl, hb, hn⟩
  · obtain rfl : u = Value.ref b := ry
    obtain ⟨ox', od', J'⟩ := inst_of I hb
    exact go _ J'.type hn
  · obtain rfl : u = Value.ref b := ry
    obtain ⟨_, _, _, o, h1, h2, _⟩ := (show ObjOk X.prog X.w H s.heap b (.tup ys) from I.hok b _ hb)
    exact go _ (PySem.W.kitAt_ty _ _ ⟨o, h1, h2⟩) hn
end
/-! != by the own __eq__ -/
section
variable {prog : Program} {w : World} {A : Around} {Er : Value → Shared → Prop} {s : Shared} {K : PySem.W.Frag} {x D f : Addr} {ox : Obj} {od : Option Obj} {b tb : Value}
theorem bound_ne {M : Model} {args : List Value} {Q : Option Value → Shared → Prop} (Y : K.In s.heap) (J : PySem.W.InstAt s.heap x ox D od) (hs : PySem.W.findIn K (.ref D) "__ne__" = some (some (.builtin "object.__ne__")))
    (h : wpAny M A (call (.builtin "object.__ne__") (.ref x :: args)) (fun v => Q (some v)) Er s) : wpAny M A (callSpecialIfBound? (.ref x) "__ne__" args) Q Er s := by
  simp only [callSpecialIfBound?, bindSpecialIfBound?]
  refine wpAny_holding (wpAny_bind (wpAny_bind (wpAny_bind (J.type.here ((PySem.W.looks_findIn Y hs).here (wpAny_bind (wpAny_askSetting (wpAny_ite ?_))))))))
  have fin : wpAny M A (call (.builtin "object.__ne__") ([.ref x] ++ args) >>= fun v => pure (some v)) Q Er s := wpAny_bind (wpAny_mono h (fun v s' z => wpAny_pure z) fun _ _ z => z)
  split
  · exact wpAny_bind (wpAny_of_eq (F.cmp_object.ne.bind _) (wpAny_pure (by exact fin)))
  · exact wpAny_tryCatch (wpAny_bind (wpAny_of_eq (F.cmp_object.ne.bind _) (wpAny_pure (by exact fin))))
/-- what the own __eq__ hands back, turned about -/
def NeBack (Q : Value → Shared → Prop) (v : Value) (s' : Shared) : Prop := match v with
  | .bool c => Q (.bool (!c)) s'
  | _ => False
theorem call_ne {Q : Value → Shared → Prop} (hu : A.units + 64 < cLine) (Y : K.In s.heap) (J : PySem.W.InstAt s.heap x ox D od) (hm : PySem.W.mroIn K D (.type "object") = some true) (he : PySem.W.findIn K (.ref D) "__eq__" = some (some (.ref f))) (hf : PySem.W.isFn K (.ref f) = true)
    (h : wpAny (model prog w) A.in1 (call (.ref f) [.ref x, b]) (NeBack Q) Er s) : wpAny (model prog w) A (call (.builtin "object.__ne__") [.ref x, b]) Q Er s := by
  refine wpAny_call (codeAny_call_builtin F.cmp_object.ne.plain F.cmpEntry_ne (PySem.W.check_slot F.cmpKind_ne F.cmpSplit_ne (J.type.andThen (PySem.W.looks_mroIn Y hm)) (F.cmpArgs_ne _ _) ?_))
  unfold Builtin.«object.__ne__»
  refine wpAny_bind (m := slotArgs "__ne__" 1 _) (wpAny_of_eq (a := (Value.ref x, [b])) rfl ?_)
  dsimp only
  refine wpAny_bind (wpAny_cRoomFor (A := A.in1) (by show A.units + 1 < cLine; omega) ?_)
  refine wpAny_bind (PySem.W.ifBound_K Y J he hf (wpAny_mono h (fun v s' hv => ?_) fun _ _ z => z))
  cases v with
  | bool c => exact wpAny_bind (wpAny_truthy_bool (wpAny_pure hv))
  | _ => exact hv.elim
theorem rich_ne {h₀ : Heap} {L : Addr} {m : Str → Option Value} {Q : Value → Shared → Prop} (hu : A.units + 64 < cLine) (F₀ : Fr h₀ L s.heap m) (X₀ : K.In h₀) (J : PySem.W.InstAt s.heap x ox D od) (hb : PySem.W.Looks (model prog w) s.heap (typeOf b) tb) (hn : PySem.W.notFirst K D tb = true)
    (hm : PySem.W.mroIn K D (.type "object") = some true) (hne : PySem.W.findIn K (.ref D) "__ne__" = some (some (.builtin "object.__ne__"))) (he : PySem.W.findIn K (.ref D) "__eq__" = some (some (.ref f))) (hf : PySem.W.isFn K (.ref f) = true)
    (h : wpAny (model prog w) A.in1 (call (.ref f) [.ref x, b]) (NeBack Q) Er s) : wpAny (model prog w) A (richCompare .NotEq (.ref x) b) Q Er s := by
  have Y := X₀.keeps F₀.keep
  have one : wpAny (model prog w) A (tryCompare (.ref x) "__ne__" b) (fun r s' => ∃ c, r = some (.bool c) ∧ Q (.bool c) s') Er s := by
    unfold tryCompare
    refine wpAny_bind (bound_ne Y J hne (call_ne hu Y J hm he hf (wpAny_mono h (fun v s' hv => ?_) fun _ _ z => z)))
    cases v with
    | bool c => exact wpAny_pure ⟨!c, rfl, hv⟩
    | _ => exact hv.elim
  unfold richCompare
  simp only [oneThing_ref]
  refine wpAny_holding (wpAny_bind (wpAny_cRoomFor (by omega) (wpAny_bind (J.type.here (wpAny_bind (hb.here ?_))))))
  have fin : ∀ (r : Option Value) (s' : Shared), (∃ c, r = some (.bool c) ∧ Q (.bool c) s') → ∃ c, r = some (.bool c) ∧ Q (.bool c) s' := fun _ _ z => z
  split
  · rename_i q
    have e : PySem.W.subIn K tb (.ref D) = some false := by
      rcases Bool.or_eq_true_iff.mp hn with e | e
      · rw [beq_iff_eq.mp e] at q; simp at q
      · exact beq_iff_eq.mp e
    refine wpAny_bind ((PySem.W.looks_subIn Y e).here ?_)
    simp only [Bool.false_eq_true, if_false]
    refine wpAny_bind (wpAny_mono one (fun r s' z => ?_) fun _ _ e => e)
    obtain ⟨v, rfl, hq⟩ := fin r s' z
    exact wpAny_pure hq
  · refine wpAny_bind (wpAny_pure ?_)
    simp only [Bool.false_eq_true, if_false]
    refine wpAny_bind (wpAny_mono one (fun r s' z => ?_) fun _ _ e => e)
    obtain ⟨v, rfl, hq⟩ := fin r s' z
    exact wpAny_pure hq
end
section
variable {X : Cx} {C g : Addr} {sp : Sp} {E : XK} {CXx : CXT} {n : Nat}
/-- o != y by an own __eq__, both of one class -/
def rNeOwn (C : Addr) (sp : Sp) (E : XK) : R2 := fun x y H Q => ∃ a dx fs b dy gs, x = .ref a ∧ H a = some (.ins C dx fs) ∧ y = .ref b ∧ H b = some (.ins C dy gs) ∧ sp [.ref a, .ref b] H (fun z H' => ∃ c, z = .bl c ∧ Q (.bl (!c)) H') E
theorem op_neOwn (hm : PySem.W.mroIn X.K C (.type "object") = some true) (hne : PySem.W.findIn X.K (.ref C) "__ne__" = some (some (.builtin "object.__ne__"))) (hs : PySem.W.findIn X.K (.ref C) "__eq__" = some (some (.ref g))) (hf : PySem.W.isFn X.K (.ref g) = true) (F : FnR X.prog X.w X.K X.mg X.base CXx n g sp) (hr : Room (n + 1) X.A) (hx : Passes CXx X E) :
    OpR X (compareOp .NotEq) (rNeOwn C sp E) := by
  intro pins s σ H x y v u Q I rx ry h
  obtain ⟨a, dx, fs, b, dy, gs, rfl, ha, rfl, hb, q⟩ := h
  obtain rfl : v = Value.ref a := rx
  obtain rfl : u = Value.ref b := ry
  obtain ⟨ox, od, J⟩ := inst_of I ha
  obtain ⟨ox', od', J'⟩ := inst_of I hb
  obtain ⟨m, hF⟩ := I.fr
  have run : codeAny (model X.prog X.w) X.A.in1 (.call (.ref g) ⟨[.ref a, .ref b], []⟩) (fun r s' => match r with | .ok (.ret v) => EP X pins σ (fun z H' => ∃ c, z = .bl c ∧ Q (.bl (!c)) H') v s' | .ok _ => False | .error e => X.xe e s') s := by
    refine codeAny_mono (F X.A.in1 X.stack s H [.ref a, .ref b] [.ref a, .ref b] _ E hr.in1 I.env0.in1 (.cons rfl (.cons rfl .nil)) q) fun r s' hq => ?_
    rcases r with e | (_ | _ | _ | u)
    · exact hx pins σ H s e s' I hq
    · exact hq.elim
    · exact hq.elim
    · exact hq.elim
    · exact I.after hq
  refine rich_ne hr.units hF I.ok.mod.kin J J'.type (by simp [PySem.W.notFirst]) hm hne hs hf (wpAny_mono (wpAny_call run) (fun w s' z => ?_) fun _ _ x => x)
  obtain ⟨z', H', I', rz, c, rfl, qz⟩ := z
  obtain rfl : w = Value.bool c := rz
  exact ⟨.bl (!c), H', I', rfl, qz⟩
end
end Kx

set_option maxHeartbeats 4000000
namespace Kx
open PySem PySem.Spec PyProof.Rows L2
/-- a def's promise that may speak of what runs around the call, and of the state at it -/
structure FnA (P : Program) (w : World) (K : PySem.W.Frag) (mg : Str → Option Value) (base : Heap) (CX : CXT) (k : Nat) (f : Addr) (fd : FuncData) (ps : List Str) (sp : Around → Shared → Sp) : Prop where
  len : ∀ A s vs H Q E, sp A s vs H Q E → vs.length = ps.length
  run : ∀ (A : Around) (outer : List Env) (s : Shared) (H : Hp) (args : Args) (us : List Value) (vs : List V) (Q : VK) (E : XK), Room k A → Env0 P w K mg base A outer s H → BindsTo s fd args (ps.zip us) → Vals vs us → sp A s vs H Q E →
    codeAny (model P w) A (.call (.ref f) args) (CR CX outer P w H s Q E) s
section
variable {P : Program} {w : World} {K : PySem.W.Frag} {mg : Str → Option Value} {base : Heap}
theorem okA {CX : CXT} {x qual : Str} {st : Stmt} {f : Addr} {fd : FuncData} {N ps : List Str} {k : Nat} {sp : Around → Shared → Sp} (F : Fun K x qual st f fd) (S : FnScope N ps (defScope st)) (len : ∀ A s vs H Q E, sp A s vs H Q E → vs.length = ps.length)
    (body : ∀ (cdv : Value) (A : Around) (outer : List Env) (s : Shared) (H : Hp) (vs : List V) (Q : VK) (E : XK), Room k (A.deeper (envOfC qual (defScope st) s.heap.objs.size f cdv)) → sp A s vs H Q E →
      ∃ t, PSs (cxOf CX P w K mg base N qual (defScope st) f cdv A outer s H E) (defBody st) t ∧ t { nx := fun _ H' => Q .non H', rt := Q } (start N vs) H) : FnA P w K mg base CX (k + 1) f fd ps sp := by
  obtain ⟨oc, od, kV, doc, pm, an, cdv, ct, osl, rfl, lk, hcd⟩ := F.ex
  refine ⟨len, fun A outer s H args us vs Q E hr e0 bind r h => ?_⟩
  have KX : K.In s.heap := e0.mod.kin.keeps fun b o e => (e0.bs b o e).1
  have noLim : s.heap.NoLimit := e0.mod.nolimit.keeps fun b o e => (e0.bs b o e).1
  have kinds : ∀ z ∈ ps.zip us, (defScope st).names.lookup z.1 = some .local ∨ ((defScope st).names.lookup z.1 = some .cell ∧ ((cellsFrom (s.heap.objs.size + 1) (defScope st).names []).lookup z.1).isSome = true) := fun ⟨n, v⟩ hz => by
    rcases S.par n (List.of_mem_zip hz).1 with q | q
    · exact .inl q
    · exact .inr ⟨q, PySem.W.cellsFrom_some _ _ _ (.inl q)⟩
  refine codeAny_call_function hr.depth (KX _ _ lk) rfl S.co S.gen rfl (PySem.W.codeRec_of KX hcd) (bind _ _ _ _ (wpAny_newFunctionEnv_cells S.kind kinds fun env he s1 z => ?_))
  subst he
  obtain ⟨t, ht, hq⟩ := body cdv A outer s H vs Q E (hr.deeper _) h
  refine ⟨noLim.keeps z.toInCall.keep, codeAny_func (wpAny_mono (ht.run [] s1 (start N vs) H _ (inv_start S hr.hd e0 (len _ _ _ _ _ _ h) r z) hq) (fun fl s' got => ?_) fun e s' got => got)⟩
  cases fl with
  | ret u => obtain ⟨v, σ', H', J, rv, q⟩ := got; exact ⟨v, H', J.os, J.bare, J.base, J.hok, rv, q⟩
  | next => obtain ⟨σ', H', J, q⟩ := got; exact ⟨V.non, H', J.os, J.bare, J.base, J.hok, rfl, q⟩
  | brk => obtain ⟨_, _, _, q⟩ := got; exact q.elim
  | cont => obtain ⟨_, _, _, q⟩ := got; exact q.elim
end
/-! iter of a tuple, and an own __iter__ that hands it back -/
/-- at it: an iterator over the tuple at t, at its beginning -/
def TitO (t it : Addr) : HO := .ext fun h => h.get? it = some { cls := .type "tuple_iterator", data := .fields #[.ref t, .int 0 0] }
theorem titO_ok {P : Program} {w : World} {H : Hp} {h : Heap} {t it : Addr} (e : h.get? it = some { cls := .type "tuple_iterator", data := .fields #[.ref t, .int 0 0] }) : ObjOk P w H h it (TitO t it) := ⟨e, ⟨_, e⟩, fun _ _ p k => k _ p⟩
section
variable {X : Cx}
def rIterT (K : PySem.W.Frag) (n : Nat) : List V → Hp → VK → Prop := fun xs H Q => ∃ (t : Addr) (zs : List V), xs = [.ref t] ∧ SqT K H t zs ∧ ∀ it, H it = none → n ≤ it → Q (.ref it) (upd H it (TitO t it))
theorem call_iterT : CallR X (.builtin "iter") (rIterT X.K X.s_0.heap.objs.size) := by
  intro pins s σ H xs us Q I r h
  obtain ⟨t, zs, rfl, hq, q⟩ := h
  rw [Vals.ref1 r]
  obtain ⟨its, rv, pl, hz⟩ := I.tuple hq
  refine Calls.call_function_entry (by decide +kernel) (by decide +kernel) PySem.W.kdk_entry_iter (PySem.W.kdk_args_iter _) ?_
  unfold Builtin.«iter»
  refine wpAny_bind (m := someArgs "iter" 1 2 _) (wpAny_of_eq (a := [Value.ref t]) (by first | rfl | kernel_rfl!) ?_)
  show wpAny _ _ (pyIter (.ref t) >>= _) _ _ _; refine wpAny_bind (wpAny_pyIter_tuple pl (wpAny_pure ⟨_, rfl, ?_⟩))
  exact ⟨.ref s.heap.objs.size, _, I.laid (t' := s.toks) (fun b u e => Heap.get?_push_of_some _ e) (Nat.le_refl _) (titO_ok (Heap.get?_push_size _ rfl)), rfl, q _ (I.hok.fresh (Nat.le_refl _)) I.sz⟩
/-- what an own __iter__ promises that hands back iter(t), t a tuple -/
def spIterT (K : PySem.W.Frag) (C : Addr) (T : List (Str × V) → Addr → List V → Prop) : Around → Shared → Sp := fun _ s vs H Q _ => ∃ (a dx : Addr) (fs : List (Str × V)), vs = [.ref a] ∧ H a = some (.ins C dx fs) ∧ ∃ t zs, T fs t zs ∧ SqT K H t zs ∧
  ∀ it, H it = none → s.heap.objs.size ≤ it → Q (.ref it) (upd H it (TitO t it))
/-- for x in o, o an instance with such an __iter__ -/
def iOwnT (K : PySem.W.Frag) (C : Addr) (T : List (Str × V) → Addr → List V → Prop) (te : TE) : TI := fun σ H R => te σ H fun x H1 => ∃ a dx fs t zs, x = .ref a ∧ H1 a = some (.ins C dx fs) ∧ T fs t zs ∧ SqT K H1 t zs ∧ R (Itt K t) H1
theorem pi_ownT {C g : Addr} {fd : FuncData} {n : Nat} {T : List (Str × V) → Addr → List V → Prop} {tg e : Expr} {te : TE} (hs : PySem.W.findIn X.K (.ref C) "__iter__" = some (some (.ref g))) (hf : PySem.W.isFn X.K (.ref g) = true) (F : FnA X.prog X.w X.K X.mg X.base CX0 n g fd ["self"] (spIterT X.K C T)) (hb : Binds X.K fd ["self"] []) (hr : Room n X.A) (he : PE X e te) :
    PI X tg e (iOwnT X.K C T te) := by
  refine ⟨fun pins s σ H R I h => thn (he.run pins s σ H _ I h) fun v s1 ⟨x, H1, I1, r1, q1⟩ => ?_⟩
  obtain ⟨a, dx, fs, t, zs, rfl, ha, hT, hq, q⟩ := q1
  obtain rfl : v = Value.ref a := r1
  obtain ⟨mA, J, _⟩ := ins_get I1.hok ha
  obtain ⟨od, J, _⟩ := J.look
  obtain ⟨m, hF⟩ := I1.fr
  refine PySem.W.owit_iter hF I1.ok.mod.kin J hs hf (wpAny_call (codeAny_mono (F.run X.A X.stack s1 H1 ⟨[.ref a], []⟩ [.ref a] [.ref a] (fun z H2 => ∃ it, z = .ref it ∧ H1 it = none ∧ s1.heap.objs.size ≤ it ∧ H2 = upd H1 it (TitO t it)) (fun _ _ _ => False) hr I1.env0
    (by have := hb s1 [.ref a] I1.kIn rfl; simpa using this) (.cons rfl .nil) ⟨a, dx, fs, rfl, ha, t, zs, hT, hq, fun it h1 h2 => ⟨it, rfl, h1, h2, rfl⟩⟩) fun r s2 got => ?_))
  rcases r with e | (_ | _ | _ | u)
  · exact got.elim
  · exact got.elim
  · exact got.elim
  · exact got.elim
  · obtain ⟨z, H2, I2, rz, it, rfl, h1, h2, rfl⟩ := I1.after got
    obtain rfl : u = Value.ref it := rz
    have at_ : s2.heap.get? it = some { cls := .type "tuple_iterator", data := .fields #[.ref t, .int 0 0] } := (I2.hok it _ upd_same).1
    have I3 : Inv X pins σ H1 s2 := by
      have z := ItX.inv_drop I2 (φ := _) upd_same
      rw [ItX.dropH_upd h1] at z
      exact z
    refine wpAny_bind (wpAny_typeOf (T := "tuple_iterator") ⟨_, at_, rfl⟩ (wpAny_of_eq PySem.F.slot_tuple_iterator_next.lookup ?_))
    exact ⟨it, [it], _, _, H1, rfl, I3, turn_tuple t it, ⟨_, at_, rfl, rfl⟩, (fun b hb => by
      have e : b = it := by simpa using hb
      rw [e]
      exact I1.fpOk h2 h1), q⟩
end
end Kx

set_option maxHeartbeats 4000000
namespace Kx
open PySem PySem.Spec PyProof.Rows L2
/-! tuple(dict): the keys in order -/
section
variable {prog : Program} {w : World} {A : Around} {E : Value → Shared → Prop} {s : Shared} {d : Addr} {n : Nat} {P : Nat → Value → Prop} {OK : Heap → Prop}
theorem code_tuple_new_dict {Q₁ : Value → Shared → Prop} (S : PySem.W.KdlSrc prog w "dict" d d n P OK) (hh : A.handled = none) (hok : OK s.heap) (hn : n ≤ sizeLine)
    (h : ∀ (h' : Heap) (tk : Nat) (acc : Array Value), (∀ b o, s.heap.get? b = some o → h'.get? b = some o) → ItemsOf P acc n →
      Q₁ (.ref h'.objs.size) { s with heap := h'.push { cls := .type "tuple", data := .seq acc }, toks := tk }) :
    codeAny (model prog w) A (.call (.builtin "tuple.__new__") ⟨[.type "tuple", .ref d], []⟩) (wants Q₁ E) s := by
  refine codeAny_of_tree ?_
  show wpAny _ A.in1 (do checkBuiltinCall "tuple.__new__" ⟨[.type "tuple", .ref d], []⟩; again (.builtin "tuple.__new__" ⟨[.type "tuple", .ref d], []⟩)) _ _ s
  refine wpAny_bind (wpAny_of_eq (F.newCall_tuple_1 _) (wpAny_pure ⟨plainId_quiet F.plain_tuple_new _, codeAny_builtin F.entry_tuple_new ?_⟩))
  rw [Around.under_plainId F.plain_tuple_new _]
  have hsub := sub_tuple_self
  have hinit := init_tuple_lookup
  have hmh := madeHere_tuple
  obtain ⟨od, hod, hcd⟩ := S.type _ hok
  have hTI : s.TypeIs (.ref d) "dict" := ⟨od, hod, hcd⟩
  have hh1 : A.in1.handled = none := hh
  wp_walk using wpAny_typeOf hTI, PySem.W.kdu_collect (A := A.in1) S hh1 hok hn
  intro h' tk acc hk hacc
  show wpAny _ _ (Builtin.Tuple.tupleExact acc.toList.toArray >>= fun v => ret v) _ _ _
  unfold Builtin.Tuple.tupleExact
  refine wpAny_bind (wpAny_newObj_type ?_ (by show acc.toList.toArray.size ≤ sizeLine; simp only [Array.toArray_toList]; rw [hacc.1]; exact hn))
  refine wpAny_pure ?_
  have e : acc.toList.toArray = acc := by simp
  rw [e]
  exact h h' tk acc hk hacc
theorem call_tuple_dict {Q : Value → Shared → Prop} (S : PySem.W.KdlSrc prog w "dict" d d n P OK) (hh : A.handled = none) (hok : OK s.heap) (hn : n ≤ sizeLine)
    (hQ : ∀ (h' : Heap) (tk : Nat) (acc : Array Value), (∀ b o, s.heap.get? b = some o → h'.get? b = some o) → ItemsOf P acc n →
      Q (.ref h'.objs.size) { s with heap := h'.push { cls := .type "tuple", data := .seq acc }, toks := tk }) :
    wpAny (model prog w) A (call (.type "tuple") [.ref d]) Q E s := by
  refine callType_codes (Q₁ := fun obj s₁ => s₁.TypeIs obj "tuple" ∧ Q obj s₁) F.called_tuple (F.typeCall_tuple_1 _) F.entry_object_init
    (code_tuple_new_dict (A := A.in1) S hh hok hn fun h' tk acc hk hacc => ⟨⟨_, Heap.get?_push_size _ rfl, rfl⟩, hQ h' tk acc hk hacc⟩) fun obj s₁ h₁ => ?_
  exact ⟨h₁.1, F.args_object_init_2 obj _, object_init_meets F.called_tuple.init.lookup F.called_tuple.made (by decide) prog w A.in1 _ s₁ ⟨h₁.1, rfl, h₁.2⟩⟩
end
def rTupD : List V → Hp → VK → Prop := fun xs H Q => ∃ p kvs, xs = [.ref p] ∧ H p = some (.dK kvs) ∧ ∀ q, H q = none → Q (.ref q) (upd H q (.tup (kvs.map fun kv => kV kv.1)))
theorem call_tuple_dK {X : Cx} (hc : X.calm = true) : CallR X (.type "tuple") rTupD := by
  intro pins s σ H xs us Q I r h
  obtain ⟨p, kvs, e, hk, q⟩ := h
  subst e
  obtain ⟨u, eu, rx⟩ := vals1 r
  subst eu
  obtain rfl : u = Value.ref p := rx
  obtain ⟨z, lo, vs, rk, hd⟩ := (show ObjOk X.prog X.w H s.heap p (.dK kvs) from I.hok p _ hk)
  obtain ⟨ep, hat⟩ := hd.dictAt
  have hl : kvs.length = vs.length := Paired.length rk
  refine call_tuple_dict (PySem.W.kdl_dict (knd := mixKind X.prog X.w) (kvs := vs) (ep := ep) lo) (I.ok.hd hc) hat (by rw [← hl]; exact z) fun h' tk acc' hkeep hacc => ?_
  have I2 : Inv X pins σ H { s with heap := h', toks := tk } := I.kept hkeep
  refine ⟨.ref h'.objs.size, upd H h'.objs.size (.tup (kvs.map fun kv => kV kv.1)), I2.laid (t' := tk) (fun c o e => Heap.get?_push_of_some _ e) (Nat.le_refl _) (show ObjOk X.prog X.w _ _ _ (.tup (kvs.map fun kv => kV kv.1)) from ⟨?_, acc'.toList, ?_, ?_⟩), rfl, q _ (I2.hok.fresh (Nat.le_refl _))⟩
  · rw [List.length_map]; exact z
  · have el : acc'.toList.length = acc'.size := by simp
    refine vals_of_at (by rw [List.length_map, el, hacc.1, hl]) fun j x w h1 h2 => ?_
    obtain ⟨k, y, hky, hi⟩ := hacc.2 j w (by rw [← Array.getElem?_toList]; exact h2)
    have e1 : (kvs.map (·.1))[j]? = some k := by
      rw [KV.keys rk, List.getElem?_map, hky] <;> rfl
    have e2 : (kvs.map fun kv => kV kv.1)[j]? = some (kV k) := by
      have e3 : (kvs.map fun kv => kV kv.1) = (kvs.map (·.1)).map kV := by rw [List.map_map] <;> rfl
      rw [e3, List.getElem?_map, e1] <;> rfl
    rw [e2] at h1
    cases h1
    exact keyIs_rel hi
  · rw [Array.toArray_toList]; exact IsTup.new _ _
end Kx

set_option maxHeartbeats 4000000
namespace Kx
open PySem L2
/-! rows of kinds: what is asked of them, in plain words -/
/-- a thing that is asked about: its kind, and its text is of known length -/
structure Thing (H : Hp) (x : V) (n : String) : Prop where
  kd : Kd H x n
  fine : ∀ z, x = .str z → PyData.strOk z = true ∧ z.length ≤ 100
theorem Thing.keep {H H' : Hp} {x : V} {n : String} (t : Thing H x n) (s : Same H H') : Thing H' x n := ⟨t.kd.keep s, t.fine⟩
theorem Kd.uniq {H : Hp} {x : V} {n m : String} (a : Kd H x n) (b : Kd H x m) : n = m := by
  cases a with
  | non => cases b; rfl
  | bl => cases b; rfl
  | int => cases b; rfl
  | str => cases b; rfl
  | lst a xs h => cases b with
    | lst _ ys h' => rfl
    | tup _ ys h' => rw [h] at h'; cases h'
    | dct _ ys h' => rw [h] at h'; cases h'
  | tup a xs h => cases b with
    | lst _ ys h' => rw [h] at h'; cases h'
    | tup _ ys h' => rfl
    | dct _ ys h' => rw [h] at h'; cases h'
  | dct a xs h => cases b with
    | lst _ ys h' => rw [h] at h'; cases h'
    | tup _ ys h' => rw [h] at h'; cases h'
    | dct _ ys h' => rfl
/-- a row, as it stands: a pair, or no sequence of two -/
inductive RowIs (H : Hp) : V → Option (V × V) → Prop where
  | lst {b : Addr} {n a : V} {t u : String} (h : H b = some (.lst [n, a])) (hn : Thing H n t) (ha : Thing H a u) : RowIs H (.ref b) (some (n, a))
  | tup {b : Addr} {n a : V} {t u : String} (h : H b = some (.tup [n, a])) (hn : Thing H n t) (ha : Thing H a u) : RowIs H (.ref b) (some (n, a))
  | lstN {b : Addr} {xs : List V} (h : H b = some (.lst xs)) (l : xs.length ≠ 2) : RowIs H (.ref b) none
  | tupN {b : Addr} {xs : List V} (h : H b = some (.tup xs)) (l : xs.length ≠ 2) : RowIs H (.ref b) none
  | oth {y : V} {n : String} (h : Kd H y n) (l : seqV n = false) : RowIs H y none
theorem RowIs.keep {H H' : Hp} {y : V} {r : Option (V × V)} (h : RowIs H y r) (s : Same H H') : RowIs H' y r := by
  cases h with
  | lst h hn ha => exact .lst (s _ _ h) (hn.keep s) (ha.keep s)
  | tup h hn ha => exact .tup (s _ _ h) (hn.keep s) (ha.keep s)
  | lstN h l => exact .lstN (s _ _ h) l
  | tupN h l => exact .tupN (s _ _ h) l
  | oth h l => exact .oth (h.keep s) l
theorem RowIs.kd {H : Hp} {y : V} {r : Option (V × V)} (h : RowIs H y r) : ∃ n, Kd H y n ∧ (seqV n = false → r = none) := by
  cases h with
  | lst h hn ha => exact ⟨_, .lst _ _ h, fun z => nomatch z⟩
  | tup h hn ha => exact ⟨_, .tup _ _ h, fun z => nomatch z⟩
  | lstN h l => exact ⟨_, .lst _ _ h, fun _ => rfl⟩
  | tupN h l => exact ⟨_, .tup _ _ h, fun _ => rfl⟩
  | oth h l => exact ⟨_, h, fun _ => rfl⟩
/-- the word for a row that may not follow the names -/
def rowWord (names : List Str) : Option (V × V) → Option Str
  | none => some "row"
  | some (.str z, a) => if isLab z then (if z = "year" then some "year" else if z ∈ names then some "double" else if wholeV a 0 2 then none else some "arity") else some "label"
  | some _ => some "label"
theorem rowWord_lab {names : List Str} {n a : V} (h : labV n = false) : rowWord names (some (n, a)) = some (Str.ofString "label") := by
  cases n with
  | str z =>
    have h : isLab z = false := h
    show (if isLab z = true then _ else _) = _
    rw [h]
    rfl
  | _ => rfl
theorem lab_str {n : V} (h : labV n = true) : ∃ z, n = .str z ∧ isLab z = true := by
  cases n with
  | str z => exact ⟨z, rfl, h⟩
  | _ => cases h
def wordV : Option Str → V
  | none => .non
  | some w => .str w
/-- the dict of the kinds that were read -/
def kvOf (ps : List (Str × V)) : List (Key × V) := ps.map fun p => (Sum.inr p.1, p.2)
theorem kv_in (z : Str) : ∀ ps : List (Str × V), (valV (kvOf ps) (Sum.inr z : Key)).isSome = decide (z ∈ ps.map (·.1))
  | [] => rfl
  | p :: ps => by
    have ih := kv_in z ps
    by_cases e : p.1 = z
    · have e1 : valV (kvOf (p :: ps)) (Sum.inr z : Key) = some p.2 := valV_pos (congrArg Sum.inr e)
      rw [e1]
      simp [e]
    · have e1 : valV (kvOf (p :: ps)) (Sum.inr z : Key) = valV (kvOf ps) (Sum.inr z : Key) := valV_neg fun q => e (Sum.inr.inj q)
      have e2 : ¬ z = p.1 := fun q => e q.symm
      rw [e1, ih]
      simp [e2]
structure Km (mg : Str → Option Value) : Prop where
  year : ∃ t, mg "YEAR" = some (.str "year" t)
  arity : ∃ t, mg "MOST_ARITY" = some (.int 2 t)
  many : ∃ t, mg "MOST_KINDS" = some (.int 6 t)
def spRowFault : Sp := fun vs H Q _ => ∃ (y : V) (d : Addr) (ps : List (Str × V)) (r : Option (V × V)), vs = [y, .ref d] ∧ RowIs H y r ∧ H d = some (.dK (kvOf ps)) ∧ ∀ H', Same H H' → Q (wordV (rowWord (ps.map (·.1)) r)) H'
section
variable {P : Program} {w : World} {K : PySem.W.Frag} {mg : Str → Option Value} {base : Heap}
theorem scRowFault : FnScope ["row", "arities", "name", "arity"] ["row", "arities"] (defScope sRowFault) := ⟨rfl, rfl, rfl, by decide +kernel, rfl, by decide +kernel, by decide +kernel⟩
theorem ok_rowfault {f : Addr} {fd : FuncData} (F : Fun K "_row_fault" "_row_fault" sRowFault f fd) (m : mg "_row_fault" = some (.ref f)) (T : Bl mg) (B : Bm mg) (M : Km mg) (Sq : HasF P w K mg base "is_sequence" 1 ["thing"] spSeq) (Lb : HasF P w K mg base "is_label" 1 ["thing"] spLabel) (W : HasF P w K mg base "is_whole" 1 ["thing", "low", "high"] spWhole) : HasF P w K mg base "_row_fault" 2 ["row", "arities"] spRowFault := by
  refine ⟨f, fd, ?_, m, F.kp, F.binds fun _ _ _ _ _ _ us hl => match us, hl with | [_, _], _ => rfl⟩
  obtain ⟨f1, fd1, Sq⟩ := Sq; obtain ⟨f2, fd2, Lb⟩ := Lb; obtain ⟨f3, fd3, W⟩ := W
  obtain ⟨t1, mY⟩ := M.year; obtain ⟨t2, mA⟩ := M.arity
  refine F.ok scRowFault (fun vs H Q E h => ?_) (fun cdv A outer s H vs Q E hr h => ?_)
  · obtain ⟨a, b, c, d, rfl, _⟩ := h
    rfl
  · obtain ⟨y, d, ps, r, rfl, hy, hd, k⟩ := h
    have hu := hu_of hr
    refine ⟨_, (C8.pss_cut (ps_if (PW.pt (pw_or (pt_not (pt_val (pe_call Sq.G hr (by rfl) Sq.m Sq.kp Sq.b .nil pass0 (pa_cons (pv 0) pa_nil)))) (pw_or1 (pt_cmpR op_ne (pe_callB call_len_seq (by rfl) T.len PySem.boot_len (pa_cons (pv 0) pa_nil)) pe_int (nomark _))))) (pss_one (ps_ret pe_str)) pss_nil)
    (C8.pss_cut (ps_asg (pv 0) (pg_or (pg_lst rfl (pgs_cons (pg_name (i := 2) scRowFault.nd rfl (.inl rfl)) (pgs_cons (pg_name (i := 3) scRowFault.nd rfl (.inl rfl)) pgs_nil))) (pg_tup rfl (pgs_cons (pg_name (i := 2) scRowFault.nd rfl (.inl rfl)) (pgs_cons (pg_name (i := 3) scRowFault.nd rfl (.inl rfl)) pgs_nil)))))
    (pss_cons (ps_if (pt_not (pt_val (pe_call Lb.G hr (by rfl) Lb.m Lb.kp Lb.b .nil pass0 (pa_cons (pv 2) pa_nil)))) (pss_one (ps_ret pe_str)) pss_nil)
    (pss_cons (ps_if (pt_cmpR op_eq (pv 2) (pe_glob (v := .str "year") rfl mY ⟨_, rfl⟩) (nomark _)) (pss_one (ps_ret pe_str)) pss_nil)
    (pss_cons (ps_if (pt_cmp (pc_din hu (pv 2) (pv 1))) (pss_one (ps_ret pe_str)) pss_nil)
    (pss_cons (ps_if (pt_not (pt_val (pe_call W.G hr (by rfl) W.m W.kp W.b .nil pass0 (pa_cons (pv 3) (pa_cons pe_int (pa_cons (pe_glob (v := .int 2) rfl mA ⟨_, rfl⟩) pa_nil)))))) (pss_one (ps_ret pe_str)) pss_nil)
    (pss_one (ps_ret pe_non)))))))), ?_⟩
    refine ⟨fun σ H1 => ∃ (b : Addr) (n a : V) (t u : String), y = .ref b ∧ r = some (n, a) ∧ σ = [some y, some (.ref d), none, none] ∧ Same H H1 ∧ (H1 b = some (.lst [n, a]) ∨ H1 b = some (.tup [n, a])) ∧ Thing H1 n t ∧ Thing H1 a u, ?_, ?_⟩
    · obtain ⟨n, kd, kn⟩ := hy.kd
      refine ⟨_, rfl, y, n, rfl, kd, fun H1 s1 => ⟨_, rfl, ?_⟩⟩
      have hy1 := hy.keep s1
      have bad : r = none → ∀ H', Same H H' → Q (.str "row") H' := fun e H' s => by
        subst e
        exact k H' s
      cases e1 : seqV n with
      | false => exact iteT (bad (kn e1) _ s1)
      | true =>
        refine iteF ?_
        cases hy1 with
        | lst h hn ha => exact ⟨_, rfl, _, _, rfl, .inl (SqL.of h), rfl, _, rfl, iteF ⟨_, _, _, _, _, rfl, rfl, rfl, s1, .inl h, hn, ha⟩⟩
        | tup h hn ha => exact ⟨_, rfl, _, _, rfl, .inr (SqT.of h), rfl, _, rfl, iteF ⟨_, _, _, _, _, rfl, rfl, rfl, s1, .inr h, hn, ha⟩⟩
        | lstN h l =>
          refine ⟨_, rfl, _, _, rfl, .inl (SqL.of h), rfl, _, rfl, ?_⟩
          rw [decide_eq_false (fun e => l (by have := V.int.inj e; omega))]
          exact iteT (bad rfl _ s1)
        | tupN h l =>
          refine ⟨_, rfl, _, _, rfl, .inr (SqT.of h), rfl, _, rfl, ?_⟩
          rw [decide_eq_false (fun e => l (by have := V.int.inj e; omega))]
          exact iteT (bad rfl _ s1)
        | oth h l =>
          rw [← (kd.keep s1).uniq h, e1] at l
          cases l
    rintro σ H1 ⟨b, n, a, t, u, rfl, rfl, rfl, s1, hb, hn, ha⟩
    have hd1 := s1 _ _ hd
    refine ⟨fun σ H' => σ = [some (.ref b), some (.ref d), some n, some a] ∧ H' = H1, ?_, ?_⟩
    · refine ⟨_, rfl, ?_⟩
      rcases hb with hb | hb
      · exact .inl ⟨b, _, rfl, SqL.of hb, rfl, _, _, rfl, _, _, rfl, rfl, rfl, rfl⟩
      · exact .inr ⟨b, _, rfl, SqT.of hb, rfl, _, _, rfl, _, _, rfl, rfl, rfl, rfl⟩
    rintro σ H2 ⟨rfl, rfl⟩
    refine ⟨_, rfl, n, t, rfl, hn.kd, (fun z e => Nat.le_of_lt (small1000 (by have := (hn.fine z e).2; omega))), _, rfl, ?_⟩
    cases e2 : labV n with
    | false =>
      refine iteT ?_
      have q := k _ s1
      rw [rowWord_lab e2] at q
      exact q
    | true =>
    refine iteF ?_
    obtain ⟨z, rfl, hz⟩ := lab_str e2
    have word : ∀ w' : Option Str, (if z = "year" then some (Str.ofString "year") else if z ∈ ps.map (·.1) then some (Str.ofString "double") else if wholeV a 0 2 = true then none else some (Str.ofString "arity")) = w' → ∀ H', Same H H' → Q (wordV w') H' := fun w' e H' s => by
      have q := k H' s
      have e3 : rowWord (ps.map (·.1)) (some (.str z, a)) = w' := by
        show (if isLab z = true then _ else _) = w'
        rw [if_pos hz]
        exact e
      rw [e3] at q
      exact q
    refine ⟨_, rfl, rfl, _, rfl, ?_⟩
    refine ite2 (fun h1 => ?_) (fun h1 => ?_)
    · have e3 : z = Str.ofString "year" := V.str.inj (of_decide_eq_true h1)
      exact word (some "year") (if_pos e3) _ s1
    have n3 : ¬ z = Str.ofString "year" := fun e => h1 (decide_eq_true (congrArg V.str e))
    refine ⟨_, rfl, _, rfl, d, _, rfl, DGet.k (k := Sum.inr z) hd1, _, rfl, ?_⟩
    have kin := kv_in z ps
    cases e4 : valV (kvOf ps) (Sum.inr z : Key) with
    | some v =>
      rw [e4] at kin
      have m4 : z ∈ ps.map (·.1) := of_decide_eq_true kin.symm
      exact iteT (word (some "double") (by rw [if_neg n3, if_pos m4]) _ s1)
    | none =>
      rw [e4] at kin
      have m4 : ¬ z ∈ ps.map (·.1) := of_decide_eq_false kin.symm
      refine iteF ⟨_, rfl, a, u, 0, 2, rfl, ha.kd, _, rfl, ?_⟩
      cases e5 : wholeV a 0 2 with
      | false => exact iteT (word (some "arity") (by rw [if_neg n3, if_neg m4, e5]; rfl) _ s1)
      | true => exact iteF (word none (by rw [if_neg n3, if_neg m4, e5]; rfl) _ s1)
end
end Kx

set_option maxHeartbeats 4000000
namespace Kx
open PySem L2
/-! Kinds(rows): the rows read one by one -/
def nameOf : Option (V × V) → Str
  | some (.str z, _) => z
  | _ => "?"
def arOf : Option (V × V) → V
  | some (_, a) => a
  | _ => .non
def prOf (r : Option (V × V)) : Str × V := (nameOf r, arOf r)
/-- where and why the first row is wrong -/
def scanK : List Str → Nat → List (Option (V × V)) → Option (Nat × Str)
  | _, _, [] => none
  | names, i, r :: rs => match rowWord names r with
    | some w => some (i, w)
    | none => scanK (names ++ [nameOf r]) (i + 1) rs
def rowsDue : Option (List (Option (V × V))) → Option (Nat × Str)
  | none => some (0, "rows")
  | some rs => if 1 ≤ rs.length ∧ rs.length ≤ 6 then scanK [] 0 rs else some (0, "rows")
/-- the things xs are the rows rs -/
def AllR (H : Hp) (xs : List V) (rs : List (Option (V × V))) : Prop := xs.length = rs.length ∧ ∀ (i : Nat) (y : V) (r : Option (V × V)), xs[i]? = some y → rs[i]? = some r → RowIs H y r
theorem AllR.keep {H H' : Hp} {xs : List V} {rs : List (Option (V × V))} (h : AllR H xs rs) (s : Same H H') : AllR H' xs rs := ⟨h.1, fun i y r e1 e2 => (h.2 i y r e1 e2).keep s⟩
inductive RowsIs (H : Hp) : V → Option (List (Option (V × V))) → Prop where
  | lst {b : Addr} {xs : List V} {rs : List (Option (V × V))} (h : H b = some (.lst xs)) (a : AllR H xs rs) (l : xs.length ≤ 100) : RowsIs H (.ref b) (some rs)
  | tup {b : Addr} {xs : List V} {rs : List (Option (V × V))} (h : H b = some (.tup xs)) (a : AllR H xs rs) (l : xs.length ≤ 100) : RowsIs H (.ref b) (some rs)
  | oth {y : V} {n : String} (h : Kd H y n) (l : seqV n = false) : RowsIs H y none
theorem RowsIs.kd {H : Hp} {y : V} {r : Option (List (Option (V × V)))} (h : RowsIs H y r) : ∃ n, Kd H y n ∧ (seqV n = false → r = none) := by
  cases h with
  | lst h a l => exact ⟨_, .lst _ _ h, fun z => nomatch z⟩
  | tup h a l => exact ⟨_, .tup _ _ h, fun z => nomatch z⟩
  | oth h l => exact ⟨_, h, fun _ => rfl⟩
theorem RowsIs.keep {H H' : Hp} {y : V} {r : Option (List (Option (V × V)))} (h : RowsIs H y r) (s : Same H H') : RowsIs H' y r := by
  cases h with
  | lst h a l => exact .lst (s _ _ h) (a.keep s) l
  | tup h a l => exact .tup (s _ _ h) (a.keep s) l
  | oth h l => exact .oth (h.keep s) l
/-- a Kinds stands at p: its pairs -/
structure KindsAt (C : Addr) (H : Hp) (p : Addr) (ps : List (Str × V)) : Prop where
  ob : ∃ (dx : Addr) (fs : List (Str × V)) (r n d : Addr) (ts : List Addr), H p = some (.ins C dx fs) ∧ fs.lookup ("rows" : Str) = some (.ref r) ∧ fs.lookup ("names" : Str) = some (.ref n) ∧ fs.lookup ("_arities" : Str) = some (.ref d) ∧
    (∀ m : Str, ¬ m = Str.ofString "rows" → ¬ m = Str.ofString "names" → ¬ m = Str.ofString "_arities" → fs.lookup m = none) ∧
    H r = some (.tup (ts.map V.ref)) ∧ ts.length = ps.length ∧ (∀ (i : Nat) (t : Addr) (q : Str × V), ts[i]? = some t → ps[i]? = some q → H t = some (.tup [.str q.1, q.2])) ∧
    H n = some (.tup (ps.map fun q => V.str q.1)) ∧ H d = some (.dK (kvOf ps))
theorem KindsAt.keep {C : Addr} {H H' : Hp} {p : Addr} {ps : List (Str × V)} (k : KindsAt C H p ps) (s : Same H H') : KindsAt C H' p ps := by
  obtain ⟨dx, fs, r, n, d, ts, h1, h2, h3, h4, h5, h6, h7, h8, h9, h10⟩ := k.ob
  exact ⟨dx, fs, r, n, d, ts, s _ _ h1, h2, h3, h4, h5, s _ _ h6, h7, fun i t q e1 e2 => s _ _ (h8 i t q e1 e2), s _ _ h9, s _ _ h10⟩
/-- a row that may follow is a label not seen and a small number -/
theorem rowWord_none {names : List Str} {r : Option (V × V)} (h : rowWord names r = none) : ∃ (z : Str) (k : Int), r = some (.str z, .int k) ∧ isLab z = true ∧ ¬ z = Str.ofString "year" ∧ ¬ z ∈ names ∧ 0 ≤ k ∧ k ≤ 2 := by
  cases r with
  | none => cases h
  | some p =>
    obtain ⟨n, a⟩ := p
    cases n with
    | str z =>
      have h : (if isLab z = true then (if z = Str.ofString "year" then some (Str.ofString "year") else if z ∈ names then some (Str.ofString "double") else if wholeV a 0 2 = true then none else some (Str.ofString "arity")) else some (Str.ofString "label")) = none := h
      by_cases h1 : isLab z = true
      · rw [if_pos h1] at h
        by_cases h2 : z = Str.ofString "year"
        · rw [if_pos h2] at h; cases h
        · rw [if_neg h2] at h
          by_cases h3 : z ∈ names
          · rw [if_pos h3] at h; cases h
          · rw [if_neg h3] at h
            by_cases h4 : wholeV a 0 2 = true
            · cases a with
              | int k =>
                have h4 : (decide (0 ≤ k) && decide (k ≤ 2)) = true := h4
                rw [Bool.and_eq_true, decide_eq_true_eq, decide_eq_true_eq] at h4
                exact ⟨z, k, rfl, h1, h2, h3, h4.1, h4.2⟩
              | _ => cases h4
            · rw [if_neg h4] at h; cases h
      · rw [if_neg h1] at h; cases h
    | _ => cases h
theorem scanK_step {names : List Str} {rs : List (Option (V × V))} {i : Nat} {r : Option (V × V)} (e : rs[i]? = some r) : scanK names i (rs.drop i) = match rowWord names r with
    | some w => some (i, w)
    | none => scanK (names ++ [nameOf r]) (i + 1) (rs.drop (i + 1)) := by
  have lt : i < rs.length := (List.getElem?_eq_some_iff.mp e).1
  have e2 : rs[i] = r := (List.getElem?_eq_some_iff.mp e).2
  rw [List.drop_eq_getElem_cons lt, e2]
  rfl
theorem take_succ_of {α : Type} {l : List α} {i : Nat} {x : α} (e : l[i]? = some x) : l.take (i + 1) = l.take i ++ [x] := by
  rw [List.take_add_one, e]
  rfl
theorem kvOf_put {ps : List (Str × V)} {z : Str} {a : V} (h : ¬ z ∈ ps.map (·.1)) : putK (kvOf ps) (Sum.inr z : Key) a = kvOf (ps ++ [(z, a)]) := by
  have e : valV (kvOf ps) (Sum.inr z : Key) = none := by
    have q := kv_in z ps
    rw [decide_eq_false h] at q
    cases e : valV (kvOf ps) (Sum.inr z : Key) with
    | none => rfl
    | some v => rw [e] at q; cases q
  rw [putK_new _ e]
  simp [kvOf]
theorem kvOf_keys (ps : List (Str × V)) : (kvOf ps).map (fun kv => kV kv.1) = ps.map fun q => V.str q.1 := by
  simp [kvOf, kV]
/-- what __init__ promises: the pairs, or the first wrong row -/
def spKinds (K : PySem.W.Frag) (C CB : Addr) : Sp := fun vs H Q E => ∃ (p dx : Addr) (y : V) (r : Option (List (Option (V × V)))), vs = [.ref p, y] ∧ H p = some (.ins C dx []) ∧ RowsIs H y r ∧ y ≠ .ref p ∧ y ≠ .ref dx ∧
  match rowsDue r with
  | some (i, w) => ∀ d H', H d = none → Same H H' → H' d = some (.xd [("what", .str w), ("index", .int (i : Nat))]) → E (.ref CB) (some d) H'
  | none => ∀ (rs : List (Option (V × V))) H', r = some rs → (∀ b o, H b = some o → b ≠ p → H' b = some o) → KindsAt C H' p (rs.map prOf) → Q .non H'
end Kx

set_option maxHeartbeats 4000000
namespace Kx
open PySem L2
/-- what is known of the class Kinds -/
structure KC (K : PySem.W.Frag) (C : Addr) : Prop where
  cl : Cls K C
  nR : NoAttr K C "rows"
  nN : NoAttr K C "names"
  nA : NoAttr K C "_arities"
  ca : PySem.W.findIn K (.ref C) "__class__" = some (some (.builtin "object.__class__"))
  cg : PySem.W.specialIn K (.builtin "object.__class__") "__get__" = some (some (.builtin "getset_descriptor.__get__"))
  ct : PySem.W.takesIn K (.builtin "object.__class__") = some true
  cm : PySem.W.mroIn K C (.type "object") = some true
  isT : PySem.W.kitOne K (.type "tuple") (.ref C) = some false
theorem s_rn : ¬ (Str.ofString "rows") = Str.ofString "names" := by decide +kernel
theorem s_ra : ¬ (Str.ofString "rows") = Str.ofString "_arities" := by decide +kernel
theorem s_na : ¬ (Str.ofString "names") = Str.ofString "_arities" := by decide +kernel
def kFs (r n d : Addr) : List (Str × V) := putF "_arities" (.ref d) (putF "names" (.ref n) (putF "rows" (.ref r) []))
theorem kFs_rows (r n d : Addr) : (kFs r n d).lookup ("rows" : Str) = some (.ref r) := by
  unfold kFs
  rw [lookup_putF, if_neg s_ra, lookup_putF, if_neg s_rn, lookup_putF, if_pos rfl]
theorem kFs_names (r n d : Addr) : (kFs r n d).lookup ("names" : Str) = some (.ref n) := by
  unfold kFs
  rw [lookup_putF, if_neg s_na, lookup_putF, if_pos rfl]
theorem kFs_ar (r n d : Addr) : (kFs r n d).lookup ("_arities" : Str) = some (.ref d) := by
  unfold kFs
  rw [lookup_putF, if_pos rfl]
theorem kFs_no (r n d : Addr) {m : Str} (h1 : ¬ m = Str.ofString "rows") (h2 : ¬ m = Str.ofString "names") (h3 : ¬ m = Str.ofString "_arities") : (kFs r n d).lookup m = none := by
  unfold kFs
  rw [lookup_putF, if_neg h3, lookup_putF, if_neg h2, lookup_putF, if_neg h1]
  rfl
section
variable {P : Program} {w : World} {K : PySem.W.Frag} {mg : Str → Option Value} {base : Heap}
theorem scKinds : FnScope ["self", "rows", "arities", "index", "row", "word", "name", "arity"] ["self", "rows"] (defScope sKinds_init) := ⟨rfl, rfl, rfl, by decide +kernel, rfl, by decide +kernel, by decide +kernel⟩
theorem ok_kinds {f C CB fB : Addr} {fd fdB : FuncData} (F : Fun K "__init__" "Kinds.__init__" sKinds_init f fd) (T : Bl mg) (B : Bm mg) (M : Km mg) (KX : KC K C) (Sq : HasF P w K mg base "is_sequence" 1 ["thing"] spSeq) (R : HasF P w K mg base "_row_fault" 2 ["row", "arities"] spRowFault)
    (EB : ErC P w K mg base "BadKinds" ["self", "index", "what"] CB fB fdB (spInit2 K CB "index" "what")) (n1 : PySem.W.findIn K (.ref CB) "index" = some none) (n2 : PySem.W.findIn K (.ref CB) "what" = some none) :
    FnOk P w K mg base (L2.CX P w) 3 f fd ["self", "rows"] (spKinds K C CB) := by
  obtain ⟨f1, fd1, Sq⟩ := Sq; obtain ⟨f2, fd2, R⟩ := R
  obtain ⟨t1, mM⟩ := M.many
  refine F.okX scKinds (fun vs H Q E h => ?_) (fun cdv A outer s H vs Q E hr h => ?_)
  · obtain ⟨p, dx, y, r, rfl, _⟩ := h
    rfl
  · obtain ⟨p, dx, y, r, rfl, hp, hy, yp, yd, k⟩ := h
    have hu := hu_of hr
    have hr1 : Room 1 _ := hr.mono (by decide)
    refine ⟨_, (C8.pss_cut (ps_if (PW.pt (pw_or (pt_not (pt_val (pe_call Sq.G hr1 (by rfl) Sq.m Sq.kp Sq.b .nil pass0 (pa_cons (pv 1) pa_nil)))) (pw_or1 (pt_not (pt_chain op_le op_le pe_int (pe_callB call_len_seq (by rfl) T.len PySem.boot_len (pa_cons (pv 1) pa_nil)) (pe_glob (v := .int 6) rfl mM ⟨_, rfl⟩)))))) (pss_one (ps_raise rfl (takes_of rfl rfl rfl rfl) (pmk_oex EB.T EB.iC EB.tI EB.G hr EB.b .nil pass0 (by rfl) EB.gC (pa_cons pe_int (pa_cons pe_str pa_nil))))) pss_nil)
    (pss_cons (ps_set (i := 2) scKinds.nd rfl (Or.inl rfl) pe_dnewK)
    (C8.pss_cut (ps_for (passes_of rfl) rfl (pi_enumB (by rfl) T.enumerate (pa_cons (pv 1) pa_nil)) (pg_tup rfl (pgs_cons (pg_name (i := 3) scKinds.nd rfl (Or.inl rfl)) (pgs_cons (pg_name (i := 4) scKinds.nd rfl (Or.inl rfl)) pgs_nil)))
        (pss_cons (ps_set (i := 5) scKinds.nd rfl (Or.inl rfl) (pe_call R.G hr (by rfl) R.m R.kp R.b .nil pass0 (pa_cons (pv 4) (pa_cons (pv 2) pa_nil))))
    (pss_cons (ps_if (pt_cmpR op_notN (pv 5) pe_non (nomark _)) (pss_one (ps_raise rfl (takes_of rfl rfl rfl rfl) (pmk_oex EB.T EB.iC EB.tI EB.G hr EB.b .nil pass0 (by rfl) EB.gC (pa_cons (pv 3) (pa_cons (pv 5) pa_nil))))) pss_nil)
    (pss_one (ps_dput hu (pv 2) (pe_ix ix_seq (pv 4) pe_int (fun _ _ => rfl)) (pe_ix ix_seq (pv 4) pe_int (fun _ _ => rfl)) rfl)))))
    (pss_cons (ps_fld (pv 0) (pe_callTy call_tuple_of (by rfl) B.tuple (by decide +kernel) (pa_cons (pe_lock (pe_lc (own := [("name", 6), ("arity", 7)]) (g := gTup K 2 (gCons (gName 6) (gCons (gName 7) gNil))) (tt := tYes) (by rfl) scKinds.nd (pi_items (pv 2)) (blkOk_by (own := [("name", 6), ("arity", 7)]) (N := ["self", "rows", "arities", "index", "row", "word", "name", "arity"]) (sc := defScope sKinds_init) (by decide +kernel))
        (fun _ _ _ _ _ => pg_tup rfl (pgs_cons (pg_name scKinds.nd rfl (.inl rfl)) (pgs_cons (pg_name scKinds.nd rfl (.inl rfl)) pgs_nil))) (fun _ _ _ _ _ => pts_nil) (fun _ _ _ _ _ => pe_tup (pa_cons (pv 6) (pa_cons (pv 7) pa_nil))))) pa_nil)) rfl)
    (pss_cons (ps_fld (pv 0) (pe_callTy (call_tuple_dK rfl) (by rfl) B.tuple (by decide +kernel) (pa_cons (pv 2) pa_nil)) rfl)
    (pss_one (ps_fld (pv 0) (pv 2) rfl))))))), ?_⟩
    -- the first test
    refine ⟨fun σ H1 => ∃ (b : Addr) (xs : List V) (rs : List (Option (V × V))), y = .ref b ∧ r = some rs ∧ σ = [some (.ref p), some (.ref b), none, none, none, none, none, none] ∧ Same H H1 ∧ (H1 b = some (.lst xs) ∨ H1 b = some (.tup xs)) ∧ AllR H1 xs rs ∧ 1 ≤ rs.length ∧ rs.length ≤ 6, ?_, ?_⟩
    · obtain ⟨n, kd, kn⟩ := hy.kd
      refine ⟨_, rfl, y, n, rfl, kd, fun H1 s1 => ⟨_, rfl, ?_⟩⟩
      have hy1 := hy.keep s1
      have bad : rowsDue r = some (0, Str.ofString "rows") → ∀ H', Same H H' → [V.int 0, V.str "rows"].length ≤ 1000 ∧ ∀ a, H' a = none → spInit2 K CB "index" "what" (.ref a :: ([V.int 0, V.str "rows"] ++ [])) (upd H' a (exo a CB none)) (fun v H2 => v = .non ∧ ∃ (d : Addr) (fs : List (Str × V)), H2 a = some (exo a CB (some d)) ∧ H2 d = some (exd d fs) ∧ H' d = none ∧ E (.ref CB) (some d) (upd (del H2 a) d (.xd fs))) (fun _ _ _ => False) := fun e H' s => by
        rw [e] at k
        exact fin2 EB.T n1 n2 fun d H2 hd s2 e2 => k d H2 (s.free hd) (s.trans s2) e2
      cases e1 : seqV n with
      | false => exact iteT (bad (by rw [kn e1]; rfl) _ s1)
      | true =>
        refine iteF ?_
        cases hy1 with
        | lst h a l =>
          rename_i b xs rs
          have al := a.1
          refine ⟨_, rfl, _, _, rfl, .inl (SqL.of h), _, _, rfl, rfl, _, rfl, ?_⟩
          refine ite2 (fun h1 => ?_) (fun h1 => ?_)
          · have h1 := of_decide_eq_true h1
            refine ⟨_, _, rfl, rfl, _, rfl, ?_⟩
            refine ite2 (fun h2 => ?_) (fun h2 => ?_)
            · have h2 : ¬ ((xs.length : Nat) : Int) ≤ 6 := fun e => by rw [decide_eq_true e] at h2; cases h2
              exact bad (by show (if _ then _ else _) = _; rw [if_neg (by omega)]) _ s1
            · have h2 : ((xs.length : Nat) : Int) ≤ 6 := by
                by_cases q : ((xs.length : Nat) : Int) ≤ 6
                · exact q
                · rw [decide_eq_false q] at h2
                  exact absurd rfl h2
              exact ⟨b, xs, rs, rfl, rfl, rfl, s1, .inl h, a, by omega, by omega⟩
          · have h1 : ¬ (1 : Int) ≤ ((xs.length : Nat) : Int) := fun e => h1 (decide_eq_true e)
            exact ⟨_, rfl, iteT (bad (by show (if _ then _ else _) = _; rw [if_neg (by omega)]) _ s1)⟩
        | tup h a l =>
          rename_i b xs rs
          have al := a.1
          refine ⟨_, rfl, _, _, rfl, .inr (SqT.of h), _, _, rfl, rfl, _, rfl, ?_⟩
          refine ite2 (fun h1 => ?_) (fun h1 => ?_)
          · have h1 := of_decide_eq_true h1
            refine ⟨_, _, rfl, rfl, _, rfl, ?_⟩
            refine ite2 (fun h2 => ?_) (fun h2 => ?_)
            · have h2 : ¬ ((xs.length : Nat) : Int) ≤ 6 := fun e => by rw [decide_eq_true e] at h2; cases h2
              exact bad (by show (if _ then _ else _) = _; rw [if_neg (by omega)]) _ s1
            · have h2 : ((xs.length : Nat) : Int) ≤ 6 := by
                by_cases q : ((xs.length : Nat) : Int) ≤ 6
                · exact q
                · rw [decide_eq_false q] at h2
                  exact absurd rfl h2
              exact ⟨b, xs, rs, rfl, rfl, rfl, s1, .inr h, a, by omega, by omega⟩
          · have h1 : ¬ (1 : Int) ≤ ((xs.length : Nat) : Int) := fun e => h1 (decide_eq_true e)
            exact ⟨_, rfl, iteT (bad (by show (if _ then _ else _) = _; rw [if_neg (by omega)]) _ s1)⟩
        | oth h l =>
          rw [← (kd.keep s1).uniq h, e1] at l
          cases l
    -- arities = {}
    rintro σ H1 ⟨b, xs, rs, rfl, rfl, rfl, s1, hb, al, l1, l6⟩ d hd
    have due : rowsDue (some rs) = scanK [] 0 rs := if_pos ⟨l1, l6⟩
    rw [due] at k
    have hd0 : H d = none := s1.free hd
    have bd : b ≠ d := by
      rcases hb with hb | hb
      · exact ne_of_none hb hd
      · exact ne_of_none hb hd
    have s2 : Same H1 (upd H1 d (.dK [])) := sameUpd (Same.refl _) hd
    -- the loop
    refine ⟨fun σ H2 => ∃ v3 v4 v5 : Option V, σ = [some (.ref p), some (.ref b), some (.ref d), v3, v4, v5, none, none] ∧ Same H1 H2 ∧ H2 d = some (.dK (kvOf (rs.map prOf))) ∧ scanK [] 0 rs = none, ?_, ?_⟩
    · refine ⟨_, rfl, b, xs, rfl, ?_⟩
      refine for_enumB (K := K) (a := b) (xs := xs) (fun i σ H2 => ∃ v3 v4 v5 : Option V, σ = [some (.ref p), some (.ref b), some (.ref d), v3, v4, v5, none, none] ∧ Same H1 H2 ∧ H2 d = some (.dK (kvOf ((rs.take i).map prOf))) ∧ scanK [] 0 rs = scanK (((rs.take i).map prOf).map (·.1)) i (rs.drop i))
        ⟨none, none, none, rfl, s2, upd_same, rfl⟩ ?_ ?_ ?_
      · rcases hb with hb | hb
        · exact .inl fun i σ H2 ⟨_, _, _, _, s, _⟩ => SqL.of (s _ _ hb)
        · exact .inr fun i σ H2 ⟨_, _, _, _, s, _⟩ => SqT.of (s _ _ hb)
      · rintro i x σ H2 t hi ⟨v3, v4, v5, rfl, s3, d3, sc⟩ ht
        have ltx : i < xs.length := (List.getElem?_eq_some_iff.mp hi).1
        have ltr : i < rs.length := by have := al.1; omega
        have hr' : rs[i]? = some rs[i] := List.getElem?_eq_getElem ltr
        have row := al.2 i x _ hi hr'
        have s4 : Same H1 (upd H2 t (.tup [.int (i : Nat), x])) := sameUpd s3 ht
        have dt : t ≠ d := (ne_of_none d3 ht).symm
        refine ⟨t, _, rfl, SqT.of upd_same, rfl, _, _, rfl, _, _, rfl, rfl, ?_⟩
        refine ⟨_, rfl, _, rfl, x, d, _, _, rfl, row.keep s4, by rw [upd_ne dt.symm]; exact d3, fun H3 s5 => ?_⟩
        have s6 : Same H1 H3 := s4.trans s5
        have d4 : H3 d = some (.dK (kvOf ((rs.take i).map prOf))) := s5 _ _ (by rw [upd_ne dt.symm]; exact d3)
        rw [scanK_step hr'] at sc
        cases e : rowWord (((rs.take i).map prOf).map (·.1)) rs[i] with
        | some w' =>
          rw [e] at sc
          rw [sc] at k
          refine ⟨_, rfl, rfl, _, rfl, iteT ?_⟩
          refine ⟨_, rfl, _, rfl, fin2 EB.T n1 n2 fun d' H4 hd' s7 e7 => k d' H4 ?_ (s1.trans (s6.trans s7)) e7⟩
          exact (s1.trans s6).free hd'
        | none =>
          rw [e] at sc
          refine ⟨_, rfl, rfl, _, rfl, iteF ?_⟩
          obtain ⟨z, kk, er, _, _, hnot, _, _⟩ := rowWord_none e
          have row3 := row.keep s6
          rw [er] at row3
          have len : (kvOf ((rs.take i).map prOf)).length < sizeLine := small1000 (by simp [kvOf]; omega)
          have put : ∀ {σ' : L2.St}, σ' = [some (V.ref p), some (V.ref b), some (V.ref d), some (V.int (i : Nat)), some x, some V.non, none, none] → ∃ v3 v4 v5 : Option V, σ' = [some (.ref p), some (.ref b), some (.ref d), v3, v4, v5, none, none] ∧ Same H1 (upd H3 d (.dK (putK (kvOf ((rs.take i).map prOf)) (Sum.inr z : Key) (V.int kk)))) ∧ upd H3 d (.dK (putK (kvOf ((rs.take i).map prOf)) (Sum.inr z : Key) (V.int kk))) d = some (.dK (kvOf ((rs.take (i + 1)).map prOf))) ∧ scanK [] 0 rs = scanK (((rs.take (i + 1)).map prOf).map (·.1)) (i + 1) (rs.drop (i + 1)) := fun es => by
            have et : (rs.take (i + 1)).map prOf = (rs.take i).map prOf ++ [(z, V.int kk)] := by
              rw [take_succ_of hr', List.map_append, er]
              rfl
            refine ⟨_, _, _, es, fun c o ec => ?_, ?_, ?_⟩
            · rw [upd_ne (ne_of_none ec hd)]
              exact s6 c o ec
            · rw [upd_same, kvOf_put hnot, et]
            · rw [sc, et, List.map_append, er]
              rfl
          cases row3 with
          | lst h hn ha => exact ⟨_, rfl, .inl ⟨_, _, _, _, rfl, rfl, SqL.of h, rfl, _, rfl, _, rfl, .inl ⟨_, _, _, _, rfl, rfl, SqL.of h, rfl, d, _, rfl, DPut.k (k := Sum.inr z) d4 len, put rfl⟩⟩⟩
          | tup h hn ha => exact ⟨_, rfl, .inr (.inl ⟨_, _, _, _, rfl, rfl, SqT.of h, rfl, _, rfl, _, rfl, .inr (.inl ⟨_, _, _, _, rfl, rfl, SqT.of h, rfl, d, _, rfl, DPut.k (k := Sum.inr z) d4 len, put rfl⟩)⟩)⟩
      · rintro σ H2 ⟨v3, v4, v5, rfl, s3, d3, sc⟩
        refine ⟨v3, v4, v5, rfl, s3, ?_, ?_⟩
        · rw [d3, al.1, List.take_length]
        · rw [sc, al.1, List.drop_length]; rfl
    -- the fields
    rintro σ H2 ⟨v3, v4, v5, rfl, s3, d3, sc⟩
    rw [sc] at k
    have pd : p ≠ d := ne_of_none (s1 _ _ hp) hd
    have hp2 : H2 p = some (.ins C dx []) := s3 _ _ (s1 _ _ hp)
    have pl : (rs.map prOf).length = rs.length := by simp
    refine ⟨d, _, d3, trivial, fun od => ?_⟩
    refine ⟨_, rfl, d, od, kvOf (rs.map prOf), rfl, upd_same, fun D hD => ?_⟩
    have Dd : D ≠ d := fun e => by rw [e, upd_same] at hD; cases hD
    have hD2 : H2 D = none := by rw [upd_ne Dd] at hD; exact hD
    refine lc_it walk_items (fun i H3 => (∀ c o, H2 c = some o → c ≠ d → H3 c = some o) ∧ H3 d = some (.frz od (.dK (kvOf (rs.map prOf)))) ∧ ∃ ts : List Addr, ts.length = i ∧ H3 D = some (.lst (ts.map V.ref)) ∧ ∀ (j : Nat) (t : Addr) (q : Str × V), ts[j]? = some t → (rs.map prOf)[j]? = some q → H3 t = some (.tup [.str q.1, q.2]))
      ⟨fun c o e n => ?_, ?_, [], rfl, upd_same, fun j t q e _ => by cases e⟩ (fun i H3 _ w => w.2.1) ?_ ?_
    · rw [upd_ne (ne_of_none e hD2), upd_ne n]
      exact e
    · rw [upd_ne Dd.symm, upd_same]
    · rintro i v H3 H4 hi ⟨kp, fz, ts, tl, hDs, hts⟩ ⟨t, x, y, rfl, ht, rfl, ex, ey⟩
      have lti : i < (rs.map prOf).length := by simpa [kvOf] using hi
      have eq : (rs.map prOf)[i]? = some (rs.map prOf)[i] := List.getElem?_eq_getElem lti
      have ekv : (kvOf (rs.map prOf))[i]? = some (Sum.inr (rs.map prOf)[i].1, (rs.map prOf)[i].2) := by
        unfold kvOf
        rw [List.getElem?_map, eq]
        rfl
      have ex : (kvOf (rs.map prOf))[i]?.map (fun kv => kV kv.1) = some x := ex
      have ey : (kvOf (rs.map prOf))[i]?.map Prod.snd = some y := ey
      rw [ekv] at ex ey
      cases ex
      cases ey
      refine ⟨t, _, rfl, SqT.of upd_same, rfl, _, _, rfl, _, _, rfl, rfl, rfl, ?_⟩
      have tD : t ≠ D := (ne_of_none hDs ht).symm
      have td : t ≠ d := (ne_of_none fz ht).symm
      refine ⟨_, rfl, _, rfl, (by show 2 ≤ sizeLine; decide), fun u hu' => ?_⟩
      have hu3 : H3 u = none := by
        by_cases e : u = t
        · rw [e]; exact ht
        · rw [upd_ne e] at hu'; exact hu'
      have uD : u ≠ D := (ne_of_none hDs hu3).symm
      have ud : u ≠ d := (ne_of_none fz hu3).symm
      refine ⟨ts.map V.ref, by rw [upd_ne uD.symm, upd_ne tD.symm]; exact hDs, small1000 (by simp; omega), fun c o e n => ?_, ?_, ts ++ [u], by simp [tl], by rw [upd_same, List.map_append]; rfl, fun j t' q e1 e2 => ?_⟩
      · have n1 : c ≠ u := ne_of_none (kp c o e n) hu3
        have n2 : c ≠ t := ne_of_none (kp c o e n) ht
        rw [upd_ne (ne_of_none e hD2), upd_ne n1, upd_ne n2]
        exact kp c o e n
      · rw [upd_ne Dd.symm, upd_ne ud.symm, upd_ne td.symm]
        exact fz
      · by_cases lt : j < ts.length
        · rw [List.getElem?_append_left lt] at e1
          have q3 := hts j t' q e1 e2
          have n0 : t' ≠ D := fun e => by rw [e, hDs] at q3; cases q3
          rw [upd_ne n0, upd_ne (ne_of_none q3 hu3), upd_ne (ne_of_none q3 ht)]
          exact q3
        · rw [List.getElem?_append_right (by omega)] at e1
          have j0 : j = i := by
            have := (List.getElem?_eq_some_iff.mp e1).1
            simp at this
            omega
          subst j0
          have e3 : t' = u := by
            rw [tl, Nat.sub_self] at e1
            exact (Option.some.inj e1).symm
          rw [eq] at e2
          cases e2
          rw [e3, upd_ne uD, upd_same]
          rfl
    rintro H3 ⟨kp, fz, ts, tl, hDs, hts⟩
    have tl : ts.length = (rs.map prOf).length := by rw [tl]; simp [kvOf]
    have al' : ∀ (c : Addr) (o : HO), H1 c = some o → H3 c = some o := fun c o e => kp c o (s3 c o e) (ne_of_none e hd)
    -- behind the lock
    have key : ∀ c, c ≠ d → upd H3 d (.dK (kvOf (rs.map prOf))) c = H3 c := fun c n => upd_ne n
    refine ⟨fz, D, _, rfl, .inl ⟨SqL.of (by rw [key D Dd]; exact hDs), fun l hl => ?_⟩⟩
    have ld : l ≠ d := fun e => by rw [e, upd_same] at hl; cases hl
    have l3 : H3 l = none := by rw [key l ld] at hl; exact hl
    have hp3 : H3 p = some (.ins C dx []) := kp p _ hp2 pd
    have lp : l ≠ p := (ne_of_none hp3 l3).symm
    refine ⟨_, rfl, p, C, dx, [], rfl, by rw [upd_ne lp.symm, key p pd]; exact hp3, KX.cl, KX.nR, by decide, ?_⟩
    refine ⟨_, rfl, d, kvOf (rs.map prOf), rfl, by rw [upd_ne pd.symm, upd_ne ld.symm, upd_same], fun n hn => ?_⟩
    have np : n ≠ p := fun e => by rw [e, upd_same] at hn; cases hn
    rw [upd_ne np] at hn
    have nl : n ≠ l := fun e => by rw [e, upd_same] at hn; cases hn
    rw [upd_ne nl] at hn
    have nd : n ≠ d := fun e => by rw [e, upd_same] at hn; cases hn
    have n3 : H3 n = none := by rw [key n nd] at hn; exact hn
    refine ⟨_, rfl, p, C, dx, _, rfl, by rw [upd_ne np.symm, upd_same], KX.cl, KX.nN, Nat.lt_of_le_of_lt (length_putF _ _ _) (by decide), ?_⟩
    refine ⟨_, rfl, _, rfl, p, C, dx, _, rfl, upd_same, KX.cl, KX.nA, Nat.lt_of_le_of_lt (Nat.le_trans (length_putF _ _ _) (Nat.succ_le_succ (length_putF _ _ _))) (by decide), ?_⟩
    refine k rs _ rfl (fun c o e nc => ?_) ⟨dx, kFs l n d, l, n, d, ts, upd_same, kFs_rows _ _ _, kFs_names _ _ _, kFs_ar _ _ _, fun m h1 h2 h3 => kFs_no _ _ _ h1 h2 h3, ?_, tl, fun i t q e1 e2 => ?_, ?_, ?_⟩
    · have e1 := s1 _ _ e
      have e3 := al' _ _ e1
      rw [upd_ne nc, upd_ne nc, upd_ne (ne_of_none e3 n3), upd_ne nc, upd_ne (ne_of_none e3 l3), key c (ne_of_none e1 hd)]
      exact e3
    · rw [upd_ne lp, upd_ne lp, upd_ne nl.symm, upd_ne lp, upd_same]
    · have q3 := hts i t q e1 e2
      have tp : t ≠ p := fun e => by rw [e, hp3] at q3; cases q3
      have td : t ≠ d := fun e => by rw [e, fz] at q3; cases q3
      rw [upd_ne tp, upd_ne tp, upd_ne (ne_of_none q3 n3), upd_ne tp, upd_ne (ne_of_none q3 l3), key t td]
      exact q3
    · rw [upd_ne np, upd_ne np, upd_same, kvOf_keys]
    · rw [upd_ne pd.symm, upd_ne pd.symm, upd_ne nd.symm, upd_ne pd.symm, upd_ne ld.symm, upd_same]
end
end Kx

set_option maxHeartbeats 4000000
namespace Kx
open PySem L2
/-! the methods of Kinds -/
def vv (ks : List (Str × Int)) : List (Str × V) := ks.map fun q => (q.1, V.int q.2)
def pd (q : Str × Int) : PyData := .tuple [.str q.1, .int q.2]
def kd (ks : List (Str × Int)) : PyData := .tuple (ks.map pd)
theorem eqv_kd : ∀ ks ls : List (Str × Int), PyData.eqvAll (ks.map pd) (ls.map pd) = decide (ks = ls)
  | [], [] => rfl
  | [], _ :: _ => rfl
  | _ :: _, [] => rfl
  | (a, i) :: ks, (b, j) :: ls => by
    have e : PyData.eqv (pd (a, i)) (pd (b, j)) = ((a == b) && ((i == j) && true)) := by
      simp [pd, PyData.eqv, PyData.eqvAll]
    show (PyData.eqv (pd (a, i)) (pd (b, j)) && PyData.eqvAll (ks.map pd) (ls.map pd)) = _
    rw [e, eqv_kd ks ls]
    by_cases h1 : a = b
    · by_cases h2 : i = j
      · simp [h1, h2]
      · simp [h1, h2]
    · simp [h1]
theorem small_pd : ∀ ks : List (Str × Int), (∀ q ∈ ks, PyData.strOk q.1 = true) → PyData.canLayAll0 (ks.map pd) = true ∧ PyData.depthAll (ks.map pd) ≤ 1
  | [], _ => ⟨rfl, Nat.zero_le _⟩
  | q :: ks, h => by
    obtain ⟨h1, h2⟩ := small_pd ks fun r m => h r (.tail _ m)
    have h3 := h q (.head _)
    refine ⟨?_, ?_⟩
    · show (PyData.canLay0 (pd q) && _) = true
      rw [h1]
      simp [pd, PyData.canLay0, PyData.canLayAll0, h3]
    · show max (PyData.depth (pd q)) (PyData.depthAll (ks.map pd)) ≤ 1
      have : PyData.depth (pd q) = 1 := by simp [pd, PyData.depth, PyData.depthAll]
      omega
theorem shaped_kd {ks : List (Str × Int)} (h : ∀ q ∈ ks, PyData.strOk q.1 = true) : SeqAt.shaped (kd ks) = true := by
  obtain ⟨h1, h2⟩ := small_pd ks h
  unfold SeqAt.shaped
  rw [Bool.and_eq_true]
  refine ⟨h1, decide_eq_true ?_⟩
  show PyData.depthAll (ks.map pd) + 1 ≤ 64
  omega
theorem dpAll_pd {K : PySem.W.Frag} {H : Hp} : ∀ (ks : List (Str × Int)) (ts : List Addr), ts.length = ks.length → (∀ (i : Nat) (t : Addr) (q : Str × Int), ts[i]? = some t → ks[i]? = some q → H t = some (.tup [.str q.1, .int q.2])) → DpAll K H (ts.map V.ref) (ks.map pd)
  | [], [], _, _ => .nil
  | [], _ :: _, h, _ => by cases h
  | _ :: _, [], h, _ => by cases h
  | q :: ks, t :: ts, h, f => .cons (.tup (SqT.of (f 0 t q rfl rfl)) (.cons (.str _) (.cons (.int _) .nil))) (dpAll_pd ks ts (Nat.succ.inj h) fun i t q e1 e2 => f (i + 1) t q e1 e2)
/-- the tuple of the pairs -/
def RowsT (K : PySem.W.Frag) (H : Hp) (r : Addr) (ks : List (Str × Int)) : Prop := Dp K H (.ref r) (kd ks)
theorem KindsAt.get {K : PySem.W.Frag} {C : Addr} {H : Hp} {p : Addr} {ks : List (Str × Int)} (k : KindsAt C H p (vv ks)) : ∃ (dx : Addr) (fs : List (Str × V)) (r n d : Addr) (ts : List Addr), H p = some (.ins C dx fs) ∧ fs.lookup ("rows" : Str) = some (.ref r) ∧ fs.lookup ("names" : Str) = some (.ref n) ∧ fs.lookup ("_arities" : Str) = some (.ref d) ∧
    (∀ m : Str, ¬ m = Str.ofString "rows" → ¬ m = Str.ofString "names" → ¬ m = Str.ofString "_arities" → fs.lookup m = none) ∧ H r = some (.tup (ts.map V.ref)) ∧ ts.length = ks.length ∧ Dp K H (.ref r) (kd ks) ∧ H n = some (.tup (ks.map fun q => V.str q.1)) ∧ H d = some (.dK (kvOf (vv ks))) ∧
    (∀ (i : Nat) (t : Addr) (q : Str × Int), ts[i]? = some t → ks[i]? = some q → H t = some (.tup [.str q.1, .int q.2])) := by
  obtain ⟨dx, fs, r, n, d, ts, h1, h2, h3, h4, h5, h6, h7, h8, h9, h10⟩ := k.ob
  have l : ts.length = ks.length := by rw [h7]; simp [vv]
  have f : ∀ (i : Nat) (t : Addr) (q : Str × Int), ts[i]? = some t → ks[i]? = some q → H t = some (.tup [.str q.1, .int q.2]) := fun i t q e1 e2 => h8 i t (q.1, .int q.2) e1 (by unfold vv; rw [List.getElem?_map, e2]; rfl)
  exact ⟨dx, fs, r, n, d, ts, h1, h2, h3, h4, h5, h6, l, .tup (SqT.of h6) (dpAll_pd ks ts l f), by rw [h9]; simp [vv], h10, f⟩
def spKEq (C : Addr) : Sp := fun vs H Q _ => ∃ (p : Addr) (y : V) (ks : List (Str × Int)), vs = [.ref p, y] ∧ KindsAt C H p (vv ks) ∧ (∀ q ∈ ks, PyData.strOk q.1 = true) ∧
  ((∃ (b : Addr) (ls : List (Str × Int)), y = .ref b ∧ KindsAt C H b (vv ls) ∧ (∀ q ∈ ls, PyData.strOk q.1 = true) ∧ Q (.bl (decide (ks = ls))) H) ∨ ∃ (b : Addr) (zs : List V), y = .ref b ∧ H b = some (.tup zs) ∧ Q (.bl false) H)
section
variable {P : Program} {w : World} {K : PySem.W.Frag} {mg : Str → Option Value} {base : Heap}
theorem KC.ty {C : Addr} (k : KC K C) {H : Hp} {a dx : Addr} {fs : List (Str × V)} (h : H a = some (.ins C dx fs)) : TyX K H (.ref a) (.ref C) := .base (.ins h k.cl k.ca k.cg k.ct k.cm)
theorem kit_self {K : PySem.W.Frag} {c : Value} : PySem.W.kitOne K c c = some true := by
  unfold PySem.W.kitOne
  rw [beq_self_eq_true]
  rfl
theorem scKEq : FnScope ["self", "other"] ["self", "other"] (defScope sKinds_eq) := ⟨rfl, rfl, rfl, by decide +kernel, rfl, by decide +kernel, by decide +kernel⟩
theorem ok_keq {f C : Addr} {fd : FuncData} (F : Fun K "__eq__" "Kinds.__eq__" sKinds_eq f fd) (B : Bm mg) (KX : KC K C) (mK : mg "Kinds" = some (.ref C)) : FnOk P w K mg base CX0 1 f fd ["self", "other"] (spKEq C) := by
  refine F.ok scKEq (fun vs H Q E h => ?_) (fun cdv A outer s H vs Q E hr h => ?_)
  · obtain ⟨p, y, ks, rfl, _⟩ := h
    rfl
  · obtain ⟨p, y, ks, rfl, hk, ok, h⟩ := h
    refine ⟨_, pss_one (ps_ret (pe_and (pe_callB call_isi (by rfl) B.isinstance (by decide +kernel) (pa_cons (pv 1) (pa_cons (pe_glob (v := .ref C) rfl mK rfl) pa_nil))) (pe_one (pe_cmpR (op_eqD hr.units) (pe_fld (pv 0) rfl) (pe_fld (pv 1) rfl) (nomark _))))), ?_⟩
    obtain ⟨dx, fs, r, n, d, ts, h1, h2, h3, h4, h5, h6, h7, h8, h9, h10, _⟩ := hk.get (K := K)
    rcases h with ⟨b, ls, rfl, hb, okb, k⟩ | ⟨b, zs, rfl, hb, k⟩
    · obtain ⟨dx', fs', r', n', d', ts', g1, g2, g3, g4, g5, g6, g7, g8, g9, g10, _⟩ := hb.get (K := K)
      refine ⟨_, rfl, _, _, _, _, _, rfl, .own C, KX.ty g1, kit_self, _, rfl, iteT ?_⟩
      refine ⟨_, rfl, p, C, dx, fs, _, rfl, h1, KX.cl, KX.nR, h2, _, rfl, b, C, dx', fs', _, rfl, g1, KX.cl, KX.nR, g2, kd ks, kd ls, h8, g8, shaped_kd ok, shaped_kd okb, ?_⟩
      rw [show PyData.eqv (kd ks) (kd ls) = decide (ks = ls) from eqv_kd ks ls]
      exact k
    · exact ⟨_, rfl, _, _, _, _, _, rfl, .own C, .base (.tup hb), KX.isT, _, rfl, iteF k⟩
end
end Kx

set_option maxHeartbeats 4000000
namespace Kx
open PySem L2
theorem lab_ok {z : Str} (h : isLab z = true) : PyData.strOk z = true ∧ z.length ≤ 6 := by
  unfold isLab at h
  rw [Bool.and_eq_true, Bool.and_eq_true, decide_eq_true_eq, decide_eq_true_eq] at h
  refine ⟨?_, h.2.1⟩
  unfold PyData.strOk
  rw [Array.all_eq_true]
  intro i hi
  have h3 := List.all_eq_true.mp h.2.2 z.cps[i] (by simp)
  unfold isLow at h3
  rw [decide_eq_true_eq]
  simp only [Bool.and_eq_true, decide_eq_true_eq] at h3
  omega
def kIn (ks : List (Str × Int)) (x : V) : Bool := match x with
  | .str z => decide (z ∈ ks.map (·.1))
  | _ => false
theorem kIn_val (ks : List (Str × Int)) (z : Str) : (valV (kvOf (vv ks)) (Sum.inr z : Key)).isSome = kIn ks (.str z) := by
  rw [kv_in]
  show decide (z ∈ (vv ks).map (·.1)) = decide (z ∈ ks.map (·.1))
  unfold vv
  rw [List.map_map]
  rfl
def spKLen (C : Addr) : Sp := fun vs H Q _ => ∃ (p : Addr) (ks : List (Str × Int)), vs = [.ref p] ∧ KindsAt C H p (vv ks) ∧ Q (.int (ks.length : Nat)) H
def spKIn (C : Addr) : Sp := fun vs H Q _ => ∃ (p : Addr) (x : V) (n : String) (ks : List (Str × Int)), vs = [.ref p, x] ∧ KindsAt C H p (vv ks) ∧ Kd H x n ∧ Q (.bl (kIn ks x)) H
def kAr (ks : List (Str × Int)) (x : V) : Option V := match x with
  | .str z => valV (kvOf (vv ks)) (Sum.inr z : Key)
  | _ => none
theorem kAr_in (ks : List (Str × Int)) (x : V) : (kAr ks x).isSome = kIn ks x := by
  cases x with
  | str z => exact kIn_val ks z
  | _ => rfl
def spKAr (C CN : Addr) : Sp := fun vs H Q E => ∃ (p : Addr) (x : V) (n : String) (ks : List (Str × Int)), vs = [.ref p, x] ∧ KindsAt C H p (vv ks) ∧ Kd H x n ∧
  match kAr ks x with
  | some v => Q v H
  | none => ∀ d H', H d = none → Same H H' → H' d = some (.xd [("name", x)]) → E (.ref CN) (some d) H'
section
variable {P : Program} {w : World} {K : PySem.W.Frag} {mg : Str → Option Value} {base : Heap}
theorem scKLen : FnScope ["self"] ["self"] (defScope sKinds_len) := ⟨rfl, rfl, rfl, by decide +kernel, rfl, by decide +kernel, by decide +kernel⟩
theorem ok_klen {f C : Addr} {fd : FuncData} (F : Fun K "__len__" "Kinds.__len__" sKinds_len f fd) (T : Bl mg) (KX : KC K C) : FnOk P w K mg base CX0 1 f fd ["self"] (spKLen C) := by
  refine F.ok scKLen (fun vs H Q E h => ?_) (fun cdv A outer s H vs Q E hr h => ?_)
  · obtain ⟨p, ks, rfl, _⟩ := h
    rfl
  · obtain ⟨p, ks, rfl, hk, k⟩ := h
    obtain ⟨dx, fs, r, n, d, ts, h1, h2, h3, h4, h5, h6, h7, h8, h9, h10, _⟩ := hk.get (K := K)
    refine ⟨_, pss_one (ps_ret (pe_callB call_len_seq (by rfl) T.len PySem.boot_len (pa_cons (pe_fld (pv 0) rfl) pa_nil))), ?_⟩
    refine ⟨_, rfl, p, C, dx, fs, _, rfl, h1, KX.cl, KX.nR, h2, r, _, rfl, .inr (SqT.of h6), ?_⟩
    rw [List.length_map, h7]
    exact k
theorem scKIter : FnScope ["self"] ["self"] (defScope sKinds_iter) := ⟨rfl, rfl, rfl, by decide +kernel, rfl, by decide +kernel, by decide +kernel⟩
/-- where the names stand -/
def NamesOf (fs : List (Str × V)) (t : Addr) (_ : List V) : Prop := fs.lookup ("names" : Str) = some (.ref t)
theorem ok_kiter {f C : Addr} {fd : FuncData} (F : Fun K "__iter__" "Kinds.__iter__" sKinds_iter f fd) (mI : mg "iter" = none) (KX : KC K C) : FnA P w K mg base CX0 1 f fd ["self"] (spIterT K C NamesOf) := by
  refine okA F scKIter (fun A s vs H Q E h => ?_) (fun cdv A outer s H vs Q E hr h => ?_)
  · obtain ⟨a, dx, fs, rfl, _⟩ := h
    rfl
  · obtain ⟨a, dx, fs, rfl, h1, t, zs, hT, hq, k⟩ := h
    refine ⟨_, pss_one (ps_ret (pe_callB call_iterT (by rfl) mI (by decide +kernel) (pa_cons (pe_fld (pv 0) rfl) pa_nil))), ?_⟩
    refine ⟨_, rfl, a, C, dx, fs, _, rfl, h1, KX.cl, KX.nN, hT, t, zs, rfl, hq, fun it e1 e2 => k it e1 e2⟩
theorem scKIn : FnScope ["self", "thing"] ["self", "thing"] (defScope sKinds_contains) := ⟨rfl, rfl, rfl, by decide +kernel, rfl, by decide +kernel, by decide +kernel⟩
theorem ok_kin {f C : Addr} {fd : FuncData} (F : Fun K "__contains__" "Kinds.__contains__" sKinds_contains f fd) (B : Bm mg) (KX : KC K C) : FnOk P w K mg base CX0 1 f fd ["self", "thing"] (spKIn C) := by
  refine F.ok scKIn (fun vs H Q E h => ?_) (fun cdv A outer s H vs Q E hr h => ?_)
  · obtain ⟨p, x, n, ks, rfl, _⟩ := h
    rfl
  · obtain ⟨p, x, n, ks, rfl, hk, kd', k⟩ := h
    have hu := hu_of hr
    obtain ⟨dx, fs, r, n', d, ts, h1, h2, h3, h4, h5, h6, h7, h8, h9, h10, _⟩ := hk.get (K := K)
    refine ⟨_, pss_one (ps_ret (pe_and (pe_callB call_isi (by rfl) B.isinstance (by decide +kernel) (pa_cons (pv 1) (pa_cons (pe_bltn (v := .ty "str") (by rfl) B.str (by decide +kernel) rfl) pa_nil))) (pe_one (pe_cmp (pc_din hu (pv 1) (pe_fld (pv 0) rfl)) rfl)))), ?_⟩
    refine ⟨_, rfl, x, _, _, _, _, rfl, .ty _, kd'.ty, kit_ty (kit_str kd'.kits), _, rfl, ?_⟩
    cases kd' with
    | str z =>
      refine iteT ⟨_, rfl, _, rfl, p, C, dx, fs, _, rfl, h1, KX.cl, KX.nA, h4, d, _, rfl, DGet.k (k := Sum.inr z) h10, ?_⟩
      rw [kIn_val]
      exact k
    | _ => exact iteF k
end
end Kx

set_option maxHeartbeats 4000000
namespace Kx
open PySem PySem.Spec PyProof.Rows L2
section
variable {X : Cx} {CX : CXT} {k : Nat} {f C : Addr} {fd : FuncData} {ps : List Str} {sp : Sp} {x m : Str} {p pos apos : Pos} {e o : Expr} {es : List Expr} {t : TA} {ta : TE} {Ew : L2.St → XK}
/-- C(..) that may be refused, what is wished then depending on the slots -/
theorem run_makeS {pins : List (Addr × Obj)} {σ : L2.St} {H : Hp} {s : Shared} {Q : VK} {us : List Value} {vs : List V} (M : Mk X.K C f) (F : FnOk X.prog X.w X.K X.mg X.base CX k f fd ps sp) (hr : Room (k + 1) X.A) (hb : Binds X.K fd ps [])
    (hx : PassesAt CX X σ (Ew σ)) (I : Inv X pins σ H s) (r : Vals vs us)
    (h : ∀ x dx, H x = none → H dx = none → dx ≠ x → sp (.ref x :: vs) (upd (upd H dx (.own x)) x (.ins C dx [])) (fun v H2 => v = .non ∧ Q (.ref x) H2) (Ew σ)) :
    wpAny (model X.prog X.w) X.A (call (.ref C) us) (EP X pins σ Q) X.xe s := by
  have hq := h (s.heap.objs.size + 1) s.heap.objs.size (I.hok.fresh (Nat.le_succ _)) (I.hok.fresh (Nat.le_refl _)) (Nat.ne_of_lt (Nat.lt_succ_self _))
  have J := Inv.made (C := C) I
  have r2 : Vals (V.ref (s.heap.objs.size + 1) :: vs) (Value.ref (s.heap.objs.size + 1) :: us) := .cons rfl r
  have hl : (Value.ref (s.heap.objs.size + 1) :: us ++ []).length = ps.length := by
    have e := r2.length
    rw [F.len _ _ _ _ hq] at e
    rw [List.append_nil]
    exact e.symm
  have bd := hb _ (Value.ref (s.heap.objs.size + 1) :: us) J.kIn hl
  rw [List.append_nil] at bd
  refine wpAny_call (make_map (f := f) I.kIn M.makes M.init (beq_iff_eq.mp M.fn) (codeAny_mono (F.run _ X.stack _ _ ⟨Value.ref (s.heap.objs.size + 1) :: us, []⟩ (Value.ref (s.heap.objs.size + 1) :: us) _ _ (Ew σ) (hr.make C us []) (J.env0.make C us []) bd r2 hq) fun r s' got => ?_))
  rcases r with e | (_ | _ | _ | u)
  · exact hx pins _ _ e s' J got
  · exact False.elim got
  · exact False.elim got
  · exact False.elim got
  · obtain ⟨v, H', J3, rv, ev, q3⟩ := J.after got
    subst ev
    exact ⟨rv, ⟨V.ref (s.heap.objs.size + 1), H', J3, rfl, q3⟩⟩
def tMakeS (C : Addr) (sp : Sp) (Ew : L2.St → XK) (t : TA) : TE := fun σ H Q => t σ H fun vs H1 => ∀ x dx, H1 x = none → H1 dx = none → dx ≠ x → sp (.ref x :: vs) (upd (upd H1 dx (.own x)) x (.ins C dx [])) (fun v H2 => v = .non ∧ Q (.ref x) H2) (Ew σ)
theorem pe_makeS (M : Mk X.K C f) (F : FnOk X.prog X.w X.K X.mg X.base CX k f fd ps sp) (hr : Room (k + 1) X.A) (hg : Gl X x) (hm : X.mg x = some (.ref C)) (hb : Binds X.K fd ps []) (hx : ∀ σ, PassesAt CX X σ (Ew σ))
    (ha : PA X (e :: es) t) (hdb : (x == ("__debug__" : Str)) = false := by decide) (he : starEach (e :: es) X.env = (false, eval e X.env) :: starEach es X.env := by rfl) (hpl : (backTo pos (starEach es X.env)).any (·.1) = false := by rfl) :
    PE X (.Call (.Name x p) (e :: es) [] pos) (tMakeS C sp Ew t) := by
  refine ⟨fun pins s σ H Q I h => wpAny_Call_Name_kw (ld_glob I hg hm ?_ hdb)⟩
  refine PySem.W.callWith_K (h₀ := X.base) I.ok.mod.kin M.kp (thn (ha.run pos pins s σ H _ I h) fun us s1 ⟨vs, H1, J, r, q⟩ => ⟨J.kIn, ?_⟩) he hpl
  exact run_makeS M F hr hb (hx σ) J r q
/-- o.m(..) that may be refused -/
def tMethW (C : Addr) (m : Str) (sp : Sp) (Ew : L2.St → XK) (ta : TE) (t : TA) : TE := fun σ H Q => ta σ H fun x H1 => ∃ a dx fs, x = .ref a ∧ H1 a = some (.ins C dx fs) ∧ fs.lookup m = none ∧ t σ H1 fun vs H2 => sp (.ref a :: vs) H2 Q (Ew σ)
theorem pe_methW {pl : Sem Bool} (he : PE X o ta) (c : Cls X.K C) (hm : Meth X.K C m f) (F : FnOk X.prog X.w X.K X.mg X.base CX k f fd ps sp) (hr : Room k X.A) (hb : Binds X.K fd ps []) (hx : ∀ σ, PassesAt CX X σ (Ew σ)) (ha : PA X (e :: es) t)
    (hst : starEach (e :: es) X.env = (false, eval e X.env) :: starEach es X.env := by rfl) (hpl : (backTo pos (starEach es X.env)).any (·.1) = false := by rfl)
    (ht : eval (.Call (.Attribute o m apos) (e :: es) [] pos) X.env = (do
      let ov ← eval o X.env
      standAt apos.atName
      let (f, first) ← holding [ov] (getMethod ov m pl)
      callWith pos f first (backTo pos (starEach (e :: es) X.env)) (backToKw pos (keywordEach [] X.env))) := by rfl) :
    PE X (.Call (.Attribute o m apos) (e :: es) [] pos) (tMethW C m sp Ew ta t) := by
  refine ⟨fun pins s σ H Q I h => PySem.W.methodCall_KW (pl := pl) (thn (he.run pins s σ H _ I h) fun u s1 ⟨x, H1, J, rx, a, dx, fs, ex, ea, l, q⟩ => ?_) ht⟩
  subst ex
  obtain rfl : u = Value.ref a := rx
  refine getmeth_ok J ea c hm l (PySem.W.callWith_K (first := [.ref a]) (h₀ := X.base) I.ok.mod.kin hm.kp (thn (ha.run pos pins s1 σ H1 _ J q) fun us s2 ⟨vs, H2, J2, r, q2⟩ => ⟨J2.kIn, ?_⟩) hst hpl)
  exact run_fnS (us := .ref a :: us) (vs := .ref a :: vs) F hr hb (hx σ) J2 (.cons rfl r) q2
end
section
variable {P : Program} {w : World} {K : PySem.W.Frag} {mg : Str → Option Value} {base : Heap}
/-- an own method as the library's lemmas want it -/
structure OwnM (P : Program) (w : World) (K : PySem.W.Frag) (mg : Str → Option Value) (base : Heap) (C : Addr) (m : Str) (k : Nat) (ps : List Str) (sp : Sp) (g : Addr) (fd : FuncData) : Prop where
  M : Meth K C m g
  G : FnOk P w K mg base CX0 k g fd ps sp
  b : Binds K fd ps []
theorem OwnM.raw {C g : Addr} {m : Str} {k : Nat} {ps : List Str} {sp : Sp} {fd : FuncData} (o : OwnM P w K mg base C m k ps sp g fd) : FnR P w K mg base CX0 k g sp := (o.G.raw o.b .nil).imp fun vs H Q E h => by rw [List.append_nil]; exact h
end
end Kx

set_option maxHeartbeats 4000000
namespace Kx
open PySem L2
theorem pi_or {X : Cx} {t e : Expr} {u v : TI} (h : PI X t e u) (h' : PI X t e v) : PI X t e (fun σ H R => u σ H R ∨ v σ H R) :=
  ⟨fun pins s σ H R I q => q.elim (fun q => h.run pins s σ H R I q) fun q => h'.run pins s σ H R I q⟩
/-- a deed, as it stands -/
inductive DeedIs (H : Hp) : V → Option (List V) → Prop where
  | lst {b : Addr} {xs : List V} (h : H b = some (.lst xs)) (t : ∀ x ∈ xs, ∃ n, Thing H x n) (l : xs.length ≤ 100) : DeedIs H (.ref b) (some xs)
  | tup {b : Addr} {xs : List V} (h : H b = some (.tup xs)) (t : ∀ x ∈ xs, ∃ n, Thing H x n) (l : xs.length ≤ 100) : DeedIs H (.ref b) (some xs)
  | oth {y : V} {n : String} (h : Kd H y n) (l : seqV n = false) : DeedIs H y none
theorem DeedIs.keep {H H' : Hp} {y : V} {r : Option (List V)} (h : DeedIs H y r) (s : Same H H') : DeedIs H' y r := by
  cases h with
  | lst h t l => exact .lst (s _ _ h) (fun x m => (t x m).imp fun n q => q.keep s) l
  | tup h t l => exact .tup (s _ _ h) (fun x m => (t x m).imp fun n q => q.keep s) l
  | oth h l => exact .oth (h.keep s) l
theorem DeedIs.kd {H : Hp} {y : V} {r : Option (List V)} (h : DeedIs H y r) : ∃ n, Kd H y n ∧ (seqV n = false → r = none) := by
  cases h with
  | lst h a l => exact ⟨_, .lst _ _ h, fun z => nomatch z⟩
  | tup h a l => exact ⟨_, .tup _ _ h, fun z => nomatch z⟩
  | oth h l => exact ⟨_, h, fun _ => rfl⟩
/-- the number of persons of the kind -/
def kNum (ks : List (Str × Int)) (x : V) : Option Int := match x with
  | .str z => (ks.find? fun q => decide (q.1 = z)).map (·.2)
  | _ => none
theorem kAr_num : ∀ (ks : List (Str × Int)) (x : V), kAr ks x = (kNum ks x).map V.int := by
  intro ks x
  cases x with
  | str z =>
    show valV (kvOf (vv ks)) (Sum.inr z : Key) = ((ks.find? fun q => decide (q.1 = z)).map (·.2)).map V.int
    induction ks with
    | nil => rfl
    | cons q ks ih =>
      by_cases e : q.1 = z
      · have e1 : valV (kvOf (vv (q :: ks))) (Sum.inr z : Key) = some (V.int q.2) := valV_pos (congrArg Sum.inr e)
        rw [e1, List.find?_cons_of_pos (by simpa using e)]
        rfl
      · have e1 : valV (kvOf (vv (q :: ks))) (Sum.inr z : Key) = valV (kvOf (vv ks)) (Sum.inr z : Key) := valV_neg fun h => e (Sum.inr.inj h)
        rw [e1, ih, List.find?_cons_of_neg (by simpa using e)]
  | _ => rfl
def deedWord (ks : List (Str × Int)) : Option (List V) → Option Str
  | none => some "deed"
  | some [] => some "deed"
  | some (x :: xs) => match kNum ks x with
    | none => some "kind"
    | some k => if ((xs.length : Nat) : Int) = k then (if xs.all labV then none else some "person") else some "arity"
def spFault (C : Addr) : Sp := fun vs H Q _ => ∃ (p : Addr) (y : V) (r : Option (List V)) (ks : List (Str × Int)), vs = [.ref p, y] ∧ KindsAt C H p (vv ks) ∧ DeedIs H y r ∧ (∀ q ∈ ks, 0 ≤ q.2 ∧ q.2 ≤ 2) ∧ ∀ H', Same H H' → Q (wordV (deedWord ks r)) H'
theorem atI0 (x : V) (xs : List V) : atI (x :: xs) 0 = some x := by
  simp [atI, ixN]
theorem cut1 (x : V) (xs : List V) : cutV (x :: xs) (some 1) none = xs := by
  unfold cutV
  have e1 : HT.sIx (x :: xs).length 0 (some 1) = 1 := by
    simp [HT.sIx]
    try omega
  have e2 : HT.sIx (x :: xs).length (x :: xs).length none = (x :: xs).length := rfl
  rw [e1, e2]
  simp
theorem whole (x : V) (xs : List V) : ¬ (HT.sIx (x :: xs).length 0 (some 1) = 0 ∧ HT.sIx (x :: xs).length (x :: xs).length none = (x :: xs).length) := by
  have e1 : HT.sIx (x :: xs).length 0 (some 1) = 1 := by
    simp [HT.sIx]
    try omega
  rw [e1]
  exact fun h => absurd h.1 (by decide)
section
variable {P : Program} {w : World} {K : PySem.W.Frag} {mg : Str → Option Value} {base : Heap}
theorem scFault : FnScope ["self", "deed", "person"] ["self", "deed"] (defScope sKinds_fault) := ⟨rfl, rfl, rfl, by decide +kernel, rfl, by decide +kernel, by decide +kernel⟩
theorem ok_fault {f C gI : Addr} {fd fdI : FuncData} (F : Fun K "fault" "Kinds.fault" sKinds_fault f fd) (T : Bl mg) (KX : KC K C) (OI : OwnM P w K mg base C "__contains__" 1 ["self", "thing"] (spKIn C) gI fdI) (Sq : HasF P w K mg base "is_sequence" 1 ["thing"] spSeq) (Lb : HasF P w K mg base "is_label" 1 ["thing"] spLabel) :
    FnOk P w K mg base CX0 2 f fd ["self", "deed"] (spFault C) := by
  obtain ⟨f1, fd1, Sq⟩ := Sq; obtain ⟨f2, fd2, Lb⟩ := Lb
  refine F.ok scFault (fun vs H Q E h => ?_) (fun cdv A outer s H vs Q E hr h => ?_)
  · obtain ⟨p, y, r, ks, rfl, _⟩ := h
    rfl
  · obtain ⟨p, y, r, ks, rfl, hk, hy, kb, k⟩ := h
    have hu := hu_of hr
    refine ⟨_, (C8.pss_cut (ps_if (PW.pt (pw_or (pt_not (pt_val (pe_call Sq.G hr (by rfl) Sq.m Sq.kp Sq.b .nil pass0 (pa_cons (pv 1) pa_nil)))) (pw_or1 (pt_cmpR op_eq (pe_callB call_len_seq (by rfl) T.len PySem.boot_len (pa_cons (pv 1) pa_nil)) pe_int (nomark _))))) (pss_one (ps_ret pe_str)) pss_nil)
    (pss_cons (ps_if (pt_cmpR (op_notInOwn OI.M.at_ OI.M.fn OI.raw hr pass0) (pe_ix ix_seq (pv 1) pe_int (fun _ _ => rfl)) (pv 0) (by rfl)) (pss_one (ps_ret pe_str)) pss_nil)
    (pss_cons (ps_if (pt_cmpR op_ne (pe_callB call_len_seq (by rfl) T.len PySem.boot_len (pa_cons (pv 1) pa_nil)) (pe_op op_add pe_int (pe_dget hu (pe_fld (pv 0) rfl) (pe_ix ix_seq (pv 1) pe_int (fun _ _ => rfl)) (fun _ _ => rfl))) (nomark _)) (pss_one (ps_ret pe_str)) pss_nil)
    (C8.pss_cut (ps_for PassesOwn.never rfl (pi_or (pi_list (pe_slice sl_list (pv 1) (po_some pe_int) po_none)) (pi_tup (pe_slice sl_tup (pv 1) (po_some pe_int) po_none))) (pg_name (i := 2) scFault.nd rfl (Or.inl rfl))
        (pss_one (ps_if (pt_not (pt_val (pe_call Lb.G hr (by rfl) Lb.m Lb.kp Lb.b .nil pass0 (pa_cons (pv 2) pa_nil)))) (pss_one (ps_ret pe_str)) pss_nil)))
    (pss_one (ps_ret pe_non)))))), ?_⟩
    obtain ⟨dx, fs, r0, n', d, ts, h1, h2, h3, h4, h5, h6, h7, h8, h9, h10, _⟩ := hk.get (K := K)
    refine ⟨fun σ H1 => ∃ (b : Addr) (x : V) (xs : List V), y = .ref b ∧ r = some (x :: xs) ∧ σ = [some (.ref p), some (.ref b), none] ∧ Same H H1 ∧ (H1 b = some (.lst (x :: xs)) ∨ H1 b = some (.tup (x :: xs))) ∧ (∀ z ∈ x :: xs, ∃ n, Thing H1 z n) ∧ xs.length ≤ 100, ?_, ?_⟩
    · obtain ⟨n, kd', kn⟩ := hy.kd
      refine ⟨_, rfl, y, n, rfl, kd', fun H1 s1 => ⟨_, rfl, ?_⟩⟩
      have hy1 := hy.keep s1
      cases e1 : seqV n with
      | false => exact iteT (by have e := kn e1; subst e; exact k _ s1)
      | true =>
        refine iteF ?_
        cases hy1 with
        | lst h t l =>
          rename_i b xs
          refine ⟨_, rfl, _, _, rfl, .inl (SqL.of h), rfl, _, rfl, ?_⟩
          cases xs with
          | nil => exact iteT (k _ s1)
          | cons x xs =>
            rw [decide_eq_false (fun e => by have := V.int.inj e; simp at this; omega)]
            refine iteF ⟨b, x, xs, rfl, rfl, rfl, s1, .inl h, t, by simp at l; omega⟩
        | tup h t l =>
          rename_i b xs
          refine ⟨_, rfl, _, _, rfl, .inr (SqT.of h), rfl, _, rfl, ?_⟩
          cases xs with
          | nil => exact iteT (k _ s1)
          | cons x xs =>
            rw [decide_eq_false (fun e => by have := V.int.inj e; simp at this; omega)]
            refine iteF ⟨b, x, xs, rfl, rfl, rfl, s1, .inr h, t, by simp at l; omega⟩
        | oth h l =>
          rw [← (kd'.keep s1).uniq h, e1] at l
          cases l
    rintro σ H1 ⟨b, x, xs, rfl, rfl, rfl, s1, hb, ht, hl⟩
    obtain ⟨nx, tx⟩ := ht x (.head _)
    have hk1 := hk.keep s1
    have ixr : ∀ {Q' : V → Hp → Prop}, Q' x H1 → rIx K (.ref b) (.int 0) H1 Q' := fun q => by
      rcases hb with hb | hb
      · exact .inl ⟨_, _, _, _, rfl, rfl, SqL.of hb, atI0 _ _, q⟩
      · exact .inr (.inl ⟨_, _, _, _, rfl, rfl, SqT.of hb, atI0 _ _, q⟩)
    refine ⟨_, rfl, ixr ⟨_, rfl, p, dx, fs, rfl, s1 _ _ h1, p, x, nx, ks, rfl, hk1, tx.kd, _, rfl, _, rfl, ?_⟩⟩
    have e0 := kAr_in ks x
    have e2 := kAr_num ks x
    cases e1 : kNum ks x with
    | none =>
      rw [e1] at e2
      rw [e2] at e0
      rw [← e0]
      refine iteT ?_
      have q := k _ s1
      rw [show deedWord ks (some (x :: xs)) = some (Str.ofString "kind") by show (match kNum ks x with | none => _ | some k => _) = _; rw [e1]] at q
      exact q
    | some m =>
      rw [e1] at e2
      rw [e2] at e0
      rw [← e0]
      have mk : m = m ∧ 0 ≤ m ∧ m ≤ 2 := by
        refine ⟨rfl, ?_⟩
        cases x with
        | str z =>
          have e1 : (ks.find? fun q => decide (q.1 = z)).map (·.2) = some m := e1
          cases e3 : ks.find? fun q => decide (q.1 = z) with
          | none => rw [e3] at e1; cases e1
          | some q =>
            rw [e3] at e1
            have e4 : q.2 = m := Option.some.inj e1
            rw [← e4]
            exact kb q (List.mem_of_find?_eq_some e3)
        | _ => cases e1
      have word : deedWord ks (some (x :: xs)) = if ((xs.length : Nat) : Int) = m then (if xs.all labV then none else some (Str.ofString "person")) else some (Str.ofString "arity") := by
        show (match kNum ks x with | none => _ | some k => _) = _
        rw [e1]
      rw [word] at k
      refine iteF ⟨_, rfl, b, x :: xs, rfl, ?_, ?_⟩
      · rcases hb with hb | hb
        · exact .inl (SqL.of hb)
        · exact .inr (SqT.of hb)
      have get : DGet H1 d x (some (V.int m)) := by
        cases x with
        | str z =>
          have e2 : valV (kvOf (vv ks)) (Sum.inr z : Key) = some (V.int m) := e2
          rw [← e2]
          exact DGet.k (k := Sum.inr z) (s1 _ _ h10)
        | _ => cases e1
      refine ⟨_, rfl, p, C, dx, fs, _, rfl, s1 _ _ h1, KX.cl, KX.nA, h4, _, rfl, ?_⟩
      refine ixr ⟨d, V.int m, rfl, get, ?_⟩
      refine ⟨_, _, rfl, rfl, rfl, _, rfl, ?_⟩
      have eqn : (V.int (((x :: xs).length : Nat) : Int) = V.int (1 + m)) ↔ ((xs.length : Nat) : Int) = m := by
        constructor
        · intro e
          have := V.int.inj e
          simp at this
          omega
        · intro e
          simp
          omega
      refine ite2 (fun q1 => ?_) (fun q1 => ?_)
      · have n1 : ¬ ((xs.length : Nat) : Int) = m := fun e => by rw [decide_eq_true (eqn.mpr e)] at q1; cases q1
        have q := k _ s1
        rw [if_neg n1] at q
        exact q
      have e3 : ((xs.length : Nat) : Int) = m := by
        by_cases e : ((xs.length : Nat) : Int) = m
        · exact e
        · rw [decide_eq_false (fun h => e (eqn.mp h))] at q1
          exact absurd rfl q1
      rw [if_pos e3] at k
      -- the persons
      refine ⟨fun σ H2 => xs.all labV = true ∧ Same H H2, ?_, ?_⟩
      · rcases hb with hb | hb
        · refine .inl ⟨_, rfl, _, rfl, b, _, rfl, SqL.of hb, fun q hq => ⟨q, rfl, ⟨_, SqL.of upd_same⟩, for_list (K := K) (a := q) (xs := cutV (x :: xs) (some 1) none) (fun i σ H2 => ∃ v, σ = [some (.ref p), some (.ref b), v] ∧ Same (upd H1 q (.lst (cutV (x :: xs) (some 1) none))) H2 ∧ (xs.take i).all labV = true)
            ⟨none, rfl, Same.refl _, rfl⟩ (fun i σ H2 _ ⟨_, _, s2, _⟩ => SqL.of (s2 _ _ upd_same)) ?_ ?_⟩⟩
          · rintro i z σ H2 hi ⟨v, rfl, s2, al⟩
            rw [cut1] at hi
            have s3 : Same H1 H2 := (sameUpd (Same.refl _) hq).trans s2
            obtain ⟨n, tz⟩ := ht z (.tail _ (List.mem_of_getElem? hi))
            refine ⟨_, rfl, z, n, rfl, (tz.keep s3).kd, (fun y e => Nat.le_of_lt (small1000 (by have := (tz.fine y e).2; omega))), _, rfl, ?_⟩
            cases e5 : labV z with
            | false =>
              refine iteT ?_
              have q3 := k _ (s1.trans s3)
              rw [if_neg (fun h => by rw [List.all_eq_true.mp h z (List.mem_of_getElem? hi)] at e5; cases e5)] at q3
              exact q3
            | true =>
              refine iteF ⟨some z, rfl, s2, ?_⟩
              rw [take_succ_of hi, List.all_append, al]
              simp [e5]
          · rintro σ H2 ⟨v, rfl, s2, al⟩
            rw [cut1, List.take_length] at al
            exact ⟨al, s1.trans ((sameUpd (Same.refl _) hq).trans s2)⟩
        · refine .inr ⟨_, rfl, _, rfl, b, _, rfl, SqT.of hb, whole x xs, fun q hq => ⟨q, rfl, ⟨_, SqT.of upd_same⟩, for_tup (K := K) (a := q) (xs := cutV (x :: xs) (some 1) none) (fun i σ H2 => ∃ v, σ = [some (.ref p), some (.ref b), v] ∧ Same (upd H1 q (.tup (cutV (x :: xs) (some 1) none))) H2 ∧ (xs.take i).all labV = true)
            ⟨none, rfl, Same.refl _, rfl⟩ (fun i σ H2 _ ⟨_, _, s2, _⟩ => SqT.of (s2 _ _ upd_same)) ?_ ?_⟩⟩
          · rintro i z σ H2 hi ⟨v, rfl, s2, al⟩
            rw [cut1] at hi
            have s3 : Same H1 H2 := (sameUpd (Same.refl _) hq).trans s2
            obtain ⟨n, tz⟩ := ht z (.tail _ (List.mem_of_getElem? hi))
            refine ⟨_, rfl, z, n, rfl, (tz.keep s3).kd, (fun y e => Nat.le_of_lt (small1000 (by have := (tz.fine y e).2; omega))), _, rfl, ?_⟩
            cases e5 : labV z with
            | false =>
              refine iteT ?_
              have q3 := k _ (s1.trans s3)
              rw [if_neg (fun h => by rw [List.all_eq_true.mp h z (List.mem_of_getElem? hi)] at e5; cases e5)] at q3
              exact q3
            | true =>
              refine iteF ⟨some z, rfl, s2, ?_⟩
              rw [take_succ_of hi, List.all_append, al]
              simp [e5]
          · rintro σ H2 ⟨v, rfl, s2, al⟩
            rw [cut1, List.take_length] at al
            exact ⟨al, s1.trans ((sameUpd (Same.refl _) hq).trans s2)⟩
      rintro σ H2 ⟨al, s2⟩
      have q := k _ s2
      rw [al] at q
      exact q
end
end Kx

set_option maxHeartbeats 4000000
namespace Kx
open PySem PySem.Spec PyProof.Rows L2
/-! plain data of which dicts of one pair are part, and its repr -/
inductive Dd (H : Hp) : Nat → V → PyData → Prop where
  | non {n : Nat} : Dd H n .non .none
  | bl {n : Nat} (b : Bool) : Dd H n (.bl b) (.bool b)
  | int {n : Nat} (i : Int) (h : i.natAbs < 10 ^ 25) : Dd H n (.int i) (.int i)
  | str {n : Nat} (z : Str) (h : Fine z) : Dd H n (.str z) (.str z)
  | lst {n : Nat} {a : Addr} {xs : List V} {ds : List PyData} (h : H a = some (.lst xs)) (l : xs.length ≤ 10) (e : xs.length = ds.length) (f : ∀ (i : Nat) (x : V) (d : PyData), xs[i]? = some x → ds[i]? = some d → Dd H n x d) : Dd H (n + 1) (.ref a) (.list ds)
  | tup {n : Nat} {a : Addr} {xs : List V} {ds : List PyData} (h : H a = some (.tup xs)) (l : xs.length ≤ 10) (e : xs.length = ds.length) (f : ∀ (i : Nat) (x : V) (d : PyData), xs[i]? = some x → ds[i]? = some d → Dd H n x d) : Dd H (n + 1) (.ref a) (.tuple ds)
  | dct {n : Nat} {a : Addr} {z : Str} {v : V} {dv : PyData} (h : H a = some (.dK [(Sum.inr z, v)])) (hz : Fine z) (hv : Dd H n v dv) : Dd H (n + 1) (.ref a) (.dict [(.str z, dv)])
theorem Dd.keep {H H' : Hp} {n : Nat} {x : V} {d : PyData} (h : Dd H n x d) (s : Same H H') : Dd H' n x d := by
  induction h with
  | non => exact .non
  | bl b => exact .bl b
  | int i h => exact .int i h
  | str z h => exact .str z h
  | lst h l e f ih => exact .lst (s _ _ h) l e ih
  | tup h l e f ih => exact .tup (s _ _ h) l e ih
  | dct h hz hv ih => exact .dct (s _ _ h) hz ih
theorem Dd.up {H : Hp} {n : Nat} {x : V} {d : PyData} (h : Dd H n x d) : Dd H (n + 1) x d := by
  induction h with
  | non => exact .non
  | bl b => exact .bl b
  | int i h => exact .int i h
  | str z h => exact .str z h
  | lst h l e f ih => exact .lst h l e ih
  | tup h l e f ih => exact .tup h l e ih
  | dct h hz hv ih => exact .dct h hz ih
theorem Dd.thing {H : Hp} {n : Nat} {x : V} {d : PyData} (h : Dd H n x d) : ∃ t, Thing H x t := by
  cases h with
  | non => exact ⟨_, .non, fun z e => nomatch e⟩
  | bl b => exact ⟨_, .bl b, fun z e => nomatch e⟩
  | int i h => exact ⟨_, .int i, fun z e => nomatch e⟩
  | str z h => exact ⟨_, .str z, fun y e => by cases e; exact ⟨h.1, Nat.le_trans h.2 (by decide)⟩⟩
  | lst h l e f => exact ⟨_, .lst _ _ h, fun z e => nomatch e⟩
  | tup h l e f => exact ⟨_, .tup _ _ h, fun z e => nomatch e⟩
  | dct h hz hv => exact ⟨_, .dct _ _ h, fun z e => nomatch e⟩
/-- a bound of what it takes -/
def BB : Nat → Nat
  | 0 => 40
  | n + 1 => 10 * (BB n + 1) + 2
theorem BB_up : ∀ n, 40 ≤ BB n ∧ BB n ≤ BB (n + 1)
  | 0 => by decide
  | n + 1 => by
    have h := BB_up n
    have e1 : BB (n + 1) = 10 * (BB n + 1) + 2 := rfl
    have e2 : BB (n + 1 + 1) = 10 * (BB (n + 1) + 1) + 2 := rfl
    omega
/-- small, shown in few signs -/
def Sm (n : Nat) (d : PyData) : Prop := d.depth ≤ n ∧ d.showable = true ∧ d.leavesShort 30 = true ∧ d.bulk ≤ BB n
theorem all_sm {n : Nat} : ∀ {ds : List PyData}, (∀ d ∈ ds, Sm n d) → PyData.depthAll ds ≤ n ∧ PyData.showableAll ds = true ∧ PyData.leavesShortAll 30 ds = true ∧ PyData.bulkAll ds ≤ ds.length * (BB n + 1)
  | [], _ => ⟨Nat.zero_le _, rfl, rfl, by simp [PyData.bulkAll]⟩
  | d :: ds, h => by
    obtain ⟨h1, h2, h3, h4⟩ := h d (.head _)
    obtain ⟨g1, g2, g3, g4⟩ := all_sm fun e m => h e (.tail _ m)
    refine ⟨Nat.max_le.mpr ⟨h1, g1⟩, ?_, ?_, ?_⟩
    · show (PyData.showable d && PyData.showableAll ds) = true
      rw [h2, g2]
      rfl
    · show (PyData.leavesShort 30 d && PyData.leavesShortAll 30 ds) = true
      rw [h3, g3]
      rfl
    · show PyData.bulk d + 1 + PyData.bulkAll ds ≤ (ds.length + 1) * (BB n + 1)
      rw [Nat.add_mul, Nat.one_mul]
      omega
theorem int_short {i : Int} (h : i.natAbs < 10 ^ 25) : decide (i.natAbs.log2 < 1920) = true ∧ (PyData.shown (.int i)).length ≤ 30 := by
  refine ⟨decide_eq_true ?_, ?_⟩
  · by_cases e : i.natAbs = 0
    · rw [e]; decide
    · have : i.natAbs < 2 ^ 84 := by omega
      have := (Nat.log2_lt e).mpr this
      omega
  · have e := int_text_length_le10 (k := 25) (by decide) h
    show (Str.ofString (toString i)).length ≤ 30
    rw [PySem.ofString_length]
    omega
theorem fine_signs {z : Str} (h : Fine z) : (z.cps.toList.all fun c => decide (c < 16 ^ 8)) = true := by
  have h1 := h.1
  unfold PyData.strOk at h1
  rw [← Array.all_toList] at h1
  refine List.all_eq_true.mpr fun c hc => decide_eq_true ?_
  have := of_decide_eq_true (List.all_eq_true.mp h1 c hc)
  omega
theorem str_sm {n : Nat} {z : Str} (h : Fine z) : Sm n (.str z) := by
  refine ⟨Nat.zero_le _, rfl, fine_signs h, ?_⟩
  have := h.2
  have := (BB_up n).1
  have e : PyData.bulk (.str z) = z.length := rfl
  omega
theorem Dd.sm {H : Hp} {n : Nat} {x : V} {d : PyData} (h : Dd H n x d) : Sm n d := by
  induction h with
  | non => exact ⟨Nat.zero_le _, rfl, rfl, Nat.zero_le _⟩
  | bl b => exact ⟨Nat.zero_le _, rfl, rfl, Nat.zero_le _⟩
  | int i h => exact ⟨Nat.zero_le _, (int_short h).1, decide_eq_true (int_short h).2, Nat.zero_le _⟩
  | str z h => exact str_sm h
  | @lst n a xs ds h l e f ih =>
    obtain ⟨g1, g2, g3, g4⟩ := all_sm (n := n) (ds := ds) fun d hd => by
      obtain ⟨i, hi⟩ := List.mem_iff_getElem?.mp hd
      have lt : i < xs.length := by rw [e]; exact (List.getElem?_eq_some_iff.mp hi).1
      exact ih i xs[i] d (List.getElem?_eq_getElem lt) hi
    refine ⟨Nat.succ_le_succ g1, g2, g3, ?_⟩
    have e1 : BB (n + 1) = 10 * (BB n + 1) + 2 := rfl
    have e2 : ds.length * (BB n + 1) ≤ 10 * (BB n + 1) := Nat.mul_le_mul_right _ (by omega)
    show PyData.bulkAll ds ≤ _
    omega
  | @tup n a xs ds h l e f ih =>
    obtain ⟨g1, g2, g3, g4⟩ := all_sm (n := n) (ds := ds) fun d hd => by
      obtain ⟨i, hi⟩ := List.mem_iff_getElem?.mp hd
      have lt : i < xs.length := by rw [e]; exact (List.getElem?_eq_some_iff.mp hi).1
      exact ih i xs[i] d (List.getElem?_eq_getElem lt) hi
    refine ⟨Nat.succ_le_succ g1, g2, g3, ?_⟩
    have e1 : BB (n + 1) = 10 * (BB n + 1) + 2 := rfl
    have e2 : ds.length * (BB n + 1) ≤ 10 * (BB n + 1) := Nat.mul_le_mul_right _ (by omega)
    show PyData.bulkAll ds ≤ _
    omega
  | @dct n a z v dv h hz hv ih =>
    obtain ⟨h1, h2, h3, h4⟩ := ih
    obtain ⟨g1, g2, g3, g4⟩ := str_sm (n := n) hz
    refine ⟨?_, ?_, ?_, ?_⟩
    · show max (max (PyData.depth (.str z)) (PyData.depth dv)) 0 + 1 ≤ n + 1
      have : PyData.depth (.str z) = 0 := rfl
      omega
    · show (PyData.showable (.str z) && PyData.showable dv && true) = true
      rw [g2, h2]
      rfl
    · show (PyData.leavesShort 30 (.str z) && PyData.leavesShort 30 dv && true) = true
      rw [g3, h3]
      rfl
    · show PyData.bulk (.str z) + PyData.bulk dv + 2 + 0 ≤ _
      have e1 : BB (n + 1) = 10 * (BB n + 1) + 2 := rfl
      have e : PyData.bulk (.str z) = z.length := rfl
      have := hz.2
      omega
theorem Sm.fits {n : Nat} {d : PyData} (h : Sm n d) (l : n ≤ 4) : d.shown.length ≤ sizeLine := by
  have q := PyData.shown_le_bulk 30 (by decide) d h.2.2.1
  have b : BB n ≤ 413332 := by
    rcases (by omega : n = 0 ∨ n = 1 ∨ n = 2 ∨ n = 3 ∨ n = 4) with e | e | e | e | e <;> subst e <;> decide
  have := h.2.2.2
  rw [sizeLine_eq]
  omega
section
variable {X : Cx} {pins : List (Addr × Obj)} {σ : L2.St} {H : Hp} {s : Shared}
theorem readsAll_at {h : Heap} : ∀ {us : List Value} {ds : List PyData}, us.length = ds.length → (∀ (i : Nat) (u : Value) (d : PyData), us[i]? = some u → ds[i]? = some d → ∃ as, Reads h u d as) → ∃ as, ReadsAll h us ds as
  | [], [], _, _ => ⟨[], .nil⟩
  | [], _ :: _, e, _ => by cases e
  | _ :: _, [], e, _ => by cases e
  | u :: us, d :: ds, e, f => by
    obtain ⟨as, r1⟩ := f 0 u d rfl rfl
    obtain ⟨bs, r2⟩ := readsAll_at (us := us) (ds := ds) (Nat.succ.inj e) fun i u d h1 h2 => f (i + 1) u d h1 h2
    exact ⟨as ++ bs, .cons r1 r2⟩
def encK : Key → PyData
  | .inl i => .int i
  | .inr x => .str x
theorem mix_reads {h : Heap} {k : Key} {key : Value} (e : keyIs k key = true) : Reads h key (encK k) [] := by
  rcases keyIs_shape e with ⟨i, t, e1, e2⟩ | ⟨x, t, e1, e2⟩
  · subst e1; subst e2; exact .int i t
  · subst e1; subst e2; exact .str x t
/-- each shown as the library shows it -/
abbrev Shn (P : Program) (w : World) (h : Heap) (u : Value) (d : PyData) : Prop := ∃ bs, ReadAtMost h d.depth bs ∧ ReprK P w bs h d.depth u d.shown
theorem allK {P : Program} {w : World} {h : Heap} : ∀ {us : List Value} {ds : List PyData}, us.length = ds.length → (∀ (i : Nat) (u : Value) (d : PyData), us[i]? = some u → ds[i]? = some d → Shn P w h u d) →
    ∃ bs, ReadAtMost h (PyData.depthAll ds) bs ∧ ReprAllK P w bs h (PyData.depthAll ds) us (PyData.shownAll ds)
  | [], [], _, _ => ⟨[], (fun _ h => nomatch h), .nil⟩
  | [], _ :: _, e, _ => by cases e
  | _ :: _, [], e, _ => by cases e
  | u :: us, d :: ds, e, f => by
    obtain ⟨b1, hb1, k1⟩ := f 0 u d rfl rfl
    obtain ⟨b2, hb2, k2⟩ := allK (us := us) (ds := ds) (Nat.succ.inj e) fun i u d h1 h2 => f (i + 1) u d h1 h2
    refine ⟨b1 ++ b2, fun b hm => ?_, .cons ((k1.more fun b hb => List.mem_append_left _ hb).level_le (Nat.le_max_left _ _)) (k2.more_le (fun b hb => List.mem_append_right _ hb) (Nat.le_max_right _ _))⟩
    rcases List.mem_append.mp hm with hm | hm
    · obtain ⟨d', as', r', hd'⟩ := hb1 b hm
      exact ⟨d', as', r', Nat.le_trans hd' (Nat.le_max_left _ _)⟩
    · obtain ⟨d', as', r', hd'⟩ := hb2 b hm
      exact ⟨d', as', r', Nat.le_trans hd' (Nat.le_max_right _ _)⟩
theorem Dd.reads (I : Inv X pins σ H s) {n : Nat} {x : V} {d : PyData} (h : Dd H n x d) : ∀ u, RelV x u → ∃ as, Reads s.heap u d as := by
  induction h with
  | non => intro u r; cases r; exact ⟨_, .none⟩
  | bl b => intro u r; cases r; exact ⟨_, .bool b⟩
  | int i h => intro u r; obtain ⟨t, rfl⟩ := r; exact ⟨_, .int i t⟩
  | str z h => intro u r; obtain ⟨t, rfl⟩ := r; exact ⟨_, .str z t⟩
  | @lst n a xs ds h l e f ih =>
    intro u r
    cases r
    obtain ⟨its, rv, ⟨o, m, ho, hc, _, hd⟩, _⟩ := I.list (SqL.of h)
    have hl := rv.length
    obtain ⟨as, hr⟩ := readsAll_at (h := s.heap) (us := its) (ds := ds) (by omega) fun i u d h1 h2 => by
      have lt : i < xs.length := by have := (List.getElem?_eq_some_iff.mp h1).1; omega
      obtain ⟨u', hu, ru⟩ := rv.get (List.getElem?_eq_getElem lt)
      rw [h1] at hu
      cases hu
      exact ih i _ d (List.getElem?_eq_getElem lt) h2 u ru
    exact ⟨_, Reads.list ho hc hd (by simpa using hr)⟩
  | @tup n a xs ds h l e f ih =>
    intro u r
    cases r
    obtain ⟨its, rv, ⟨o, ho, hc, m, hd⟩, _⟩ := I.tuple (SqT.of h)
    have hl := rv.length
    obtain ⟨as, hr⟩ := readsAll_at (h := s.heap) (us := its) (ds := ds) (by omega) fun i u d h1 h2 => by
      have lt : i < xs.length := by have := (List.getElem?_eq_some_iff.mp h1).1; omega
      obtain ⟨u', hu, ru⟩ := rv.get (List.getElem?_eq_getElem lt)
      rw [h1] at hu
      cases hu
      exact ih i _ d (List.getElem?_eq_getElem lt) h2 u ru
    exact ⟨_, Reads.tuple ho hc hd (by simpa using hr)⟩
  | @dct n a z v dv h hz hv ih =>
    intro u r
    cases r
    obtain ⟨_, _, vs, rk, hd⟩ := dk_of I.hok h
    cases rk with
    | cons hp ht =>
      rename_i kv vs
      cases ht
      obtain ⟨k, w⟩ := kv
      obtain ⟨e1, e2⟩ := hp
      have e1 : (Sum.inr z : Key) = k := e1
      subst e1
      obtain ⟨as, r1⟩ := ih w e2
      exact ⟨a :: (as ++ []), PyProof.V.reads_dictOf (enc := encK) (fun k key e => mix_reads e) hd (.cons r1 .nil)⟩
/-- the parts of a thing that is shown -/
inductive Part (P : Program) (w : World) (h : Heap) : Value → PyData → Prop where
  | non : Part P w h .none .none
  | bl (b : Bool) : Part P w h (.bool b) (.bool b)
  | int (i : Int) (t : Tok) : Part P w h (.int i t) (.int i)
  | str (x : Str) (t : Tok) : Part P w h (.str x t) (.str x)
  | lst {a : Addr} {o : Obj} {vs : Array Value} {m : Nat} {xs : List PyData} (h1 : h.get? a = some o) (h2 : o.cls = .type "list") (h3 : o.data = .seq vs m) (l : vs.toList.length = xs.length) (k : ∀ (i : Nat) (u : Value) (d : PyData), vs.toList[i]? = some u → xs[i]? = some d → Shn P w h u d) : Part P w h (.ref a) (.list xs)
  | tup {a : Addr} {o : Obj} {vs : Array Value} {m : Nat} {xs : List PyData} (h1 : h.get? a = some o) (h2 : o.cls = .type "tuple") (h3 : o.data = .seq vs m) (l : vs.toList.length = xs.length) (k : ∀ (i : Nat) (u : Value) (d : PyData), vs.toList[i]? = some u → xs[i]? = some d → Shn P w h u d) : Part P w h (.ref a) (.tuple xs)
  | dct {a : Addr} {o : Obj} {es : Array DictEntry} {m : Nat} {kvs : List (PyData × PyData)} (h1 : h.get? a = some o) (h2 : o.cls = .type "dict") (h3 : o.data = .dict es m) (sy : (a == sysModules) = false) (l1 : (es.toList.map (·.key)).length = kvs.length) (l2 : (es.toList.map (·.val)).length = kvs.length)
      (k1 : ∀ (i : Nat) (u : Value) (d : PyData), (es.toList.map (·.key))[i]? = some u → (kvs.map (·.1))[i]? = some d → Shn P w h u d) (k2 : ∀ (i : Nat) (u : Value) (d : PyData), (es.toList.map (·.val))[i]? = some u → (kvs.map (·.2))[i]? = some d → Shn P w h u d) : Part P w h (.ref a) (.dict kvs)
end
end Kx

set_option maxHeartbeats 4000000
namespace Kx
open PySem PySem.Spec PyProof.Rows L2
theorem Part.shn {P : Program} {w : World} {h : Heap} {u : Value} {d : PyData} {as : List Addr} (p : Part P w h u d) (r : Reads h u d as) (hs : d.showable = true) (hz : d.shown.length ≤ sizeLine) : Shn P w h u d := by
  cases p with
  | non => exact ⟨[], (fun _ h => nomatch h), by simp only [PyData.shown]; exact .of_is ReprIs.none _ _ _⟩
  | bl b => exact ⟨[], (fun _ h => nomatch h), by simp only [PyData.shown]; exact .of_is (ReprIs.bool b) _ _ _⟩
  | int i t => exact ⟨[], (fun _ h => nomatch h), by simp only [PyData.shown]; exact .of_is (ReprIs.int t (by simpa [PyData.showable] using hs)) _ _ _⟩
  | str x t => exact ⟨[], (fun _ h => nomatch h), by simp only [PyData.shown]; exact .of_is (ReprIs.str x t (by simpa only [PyData.shown] using hz)) _ _ _⟩
  | @lst a o vs m xs h1 h2 h3 l k =>
    obtain ⟨bs, hb, hk⟩ := allK l k
    have hna : a ∉ bs := not_mem_of_deeper r (by simp only [PyData.depth]; omega) hb
    refine ⟨a :: bs, ReadAtMost.cons r (by simp only [PyData.depth]; omega) hb, ?_⟩
    simp only [PyData.depth, PyData.shown]
    obtain ⟨vl⟩ := vs
    cases vl with
    | nil =>
      cases xs with
      | nil => simp only [PyData.shownAll, listText_nil]; exact ReprK.listEmpty h1 h2 h3
      | cons x xs => cases l
    | cons x vl => exact ReprK.list h1 h2 h3 hna (by simpa using hk.length_eq) (fun i y e => hk.item i y (by simpa using e))
  | @tup a o vs m xs h1 h2 h3 l k =>
    obtain ⟨bs, hb, hk⟩ := allK l k
    have hna : a ∉ bs := not_mem_of_deeper r (by simp only [PyData.depth]; omega) hb
    refine ⟨a :: bs, ReadAtMost.cons r (by simp only [PyData.depth]; omega) hb, ?_⟩
    simp only [PyData.depth, PyData.shown]
    exact ReprK.tuple h1 h2 h3 hna hk
  | @dct a o es m kvs h1 h2 h3 sy l1 l2 k1 k2 =>
    obtain ⟨b1, hb1, q1⟩ := allK (ds := kvs.map (·.1)) (by simpa using l1) k1
    obtain ⟨b2, hb2, q2⟩ := allK (ds := kvs.map (·.2)) (by simpa using l2) k2
    have hb : ReadAtMost h (PyData.depthKv kvs) (b1 ++ b2) := (hb1.mono (PyData.depthAll_keys_le kvs)).append (hb2.mono (PyData.depthAll_vals_le kvs))
    have hna : a ∉ b1 ++ b2 := not_mem_of_deeper r (by simp only [PyData.depth]; omega) hb
    refine ⟨a :: (b1 ++ b2), ReadAtMost.cons r (by simp only [PyData.depth]; omega) hb, ?_⟩
    simp only [PyData.depth, PyData.shown, PyData.shownKv_eq]
    exact ReprK.dict h1 h2 h3 sy hna (ReprEntriesK.of_two es.toList _ _ (q1.more_le (fun b hb => List.mem_append_left _ hb) (PyData.depthAll_keys_le kvs)) (q2.more_le (fun b hb => List.mem_append_right _ hb) (PyData.depthAll_vals_le kvs)))
section
variable {X : Cx} {pins : List (Addr × Obj)} {σ : L2.St} {H : Hp} {s : Shared}
theorem Dd.part (I : Inv X pins σ H s) {n : Nat} {x : V} {d : PyData} (h : Dd H n x d) : n ≤ 4 → ∀ u, RelV x u → Part X.prog X.w s.heap u d := by
  induction h with
  | non => intro _ u r; cases r; exact .non
  | bl b => intro _ u r; cases r; exact .bl b
  | int i h => intro _ u r; obtain ⟨t, rfl⟩ := r; exact .int i t
  | str z h => intro _ u r; obtain ⟨t, rfl⟩ := r; exact .str z t
  | @lst n a xs ds h l e f ih =>
    intro hn u r
    cases r
    obtain ⟨its, rv, ⟨o, m, ho, hc, _, hd⟩, _⟩ := I.list (SqL.of h)
    have hl := rv.length
    refine .lst ho hc hd (by simp; omega) fun i u d h1 h2 => ?_
    have h1 : its[i]? = some u := by simpa using h1
    have lt : i < xs.length := by have := (List.getElem?_eq_some_iff.mp h1).1; omega
    obtain ⟨u', hu, ru⟩ := rv.get (List.getElem?_eq_getElem lt)
    rw [h1] at hu
    cases hu
    have g := f i _ d (List.getElem?_eq_getElem lt) h2
    obtain ⟨as, rd⟩ := g.reads I u ru
    exact (ih i _ d (List.getElem?_eq_getElem lt) h2 (by omega) u ru).shn rd g.sm.2.1 (g.sm.fits (by omega))
  | @tup n a xs ds h l e f ih =>
    intro hn u r
    cases r
    obtain ⟨its, rv, ⟨o, ho, hc, m, hd⟩, _⟩ := I.tuple (SqT.of h)
    have hl := rv.length
    refine .tup ho hc hd (by simp; omega) fun i u d h1 h2 => ?_
    have h1 : its[i]? = some u := by simpa using h1
    have lt : i < xs.length := by have := (List.getElem?_eq_some_iff.mp h1).1; omega
    obtain ⟨u', hu, ru⟩ := rv.get (List.getElem?_eq_getElem lt)
    rw [h1] at hu
    cases hu
    have g := f i _ d (List.getElem?_eq_getElem lt) h2
    obtain ⟨as, rd⟩ := g.reads I u ru
    exact (ih i _ d (List.getElem?_eq_getElem lt) h2 (by omega) u ru).shn rd g.sm.2.1 (g.sm.fits (by omega))
  | @dct n a z v dv h hz hv ih =>
    intro hn u r
    cases r
    obtain ⟨_, lo, vs, rk, hd⟩ := dk_of I.hok h
    cases rk with
    | cons hp ht =>
      rename_i kv vs
      cases ht
      obtain ⟨k, w⟩ := kv
      obtain ⟨e1, e2⟩ := hp
      have e1 : (Sum.inr z : Key) = k := e1
      subst e1
      obtain ⟨o, es, ep, ho, hx, hdat, _, hps, _⟩ := hd
      obtain ⟨as, rd⟩ := hv.reads I w e2
      have sv : Shn X.prog X.w s.heap w dv := (ih (by omega) w e2).shn rd hv.sm.2.1 (hv.sm.fits (by omega))
      obtain ⟨el⟩ := es
      have hps : Pairs (mixKind X.prog X.w) el [(Sum.inr z, w)] := hps
      cases hps with
      | @cons e _ _ _ hk hvv hr =>
        cases hr
        have key : keyIs (Sum.inr z) e.key = true := hk
        have sk : Shn X.prog X.w s.heap e.key (.str z) := by
          rcases keyIs_shape key with ⟨i, t, q1, q2⟩ | ⟨y, t, q1, q2⟩
          · cases q1
          · cases q1
            rw [q2]
            exact (Part.str z t).shn (.str z t) rfl ((str_sm (n := 0) hz).fits (by decide))
        have hv1 : e.val = w := hvv
        refine .dct ho hx.1 hdat lo rfl rfl (fun i u d g1 g2 => ?_) (fun i u d g1 g2 => ?_)
        · cases i with
          | zero => cases g1; cases g2; exact sk
          | succ i => cases g2
        · cases i with
          | zero => cases g1; cases g2; show Shn X.prog X.w s.heap e.val dv; rw [hv1]; exact sv
          | succ i => cases g2
end
section
variable {X : Cx}
def rReprD : List V → Hp → VK → Prop := fun xs H Q => ∃ (x : V) (n : Nat) (d : PyData), xs = [x] ∧ Dd H n x d ∧ n ≤ 4 ∧ Q (.str d.shown) H
theorem call_reprD (hg : X.A.guards = some []) (hu : X.A.units + 64 < cLine) : CallR X (.builtin "repr") rReprD := by
  intro pins s σ H xs us Q I r h
  obtain ⟨x, n, d, rfl, hd, hn, q⟩ := h
  obtain ⟨u, rfl, rx⟩ := vals1 r
  have sm := hd.sm
  have fit := sm.fits hn
  obtain ⟨as, rd⟩ := hd.reads I u rx
  have pt := hd.part I hn u rx
  have dp := sm.1
  have fin : ∀ {v : Str} (t : Tok) (h' : Heap) (tk : Nat), v = d.shown → (∀ b o, s.heap.get? b = some o → h'.get? b = some o) → EP X pins σ Q (.str v t) { s with heap := h', toks := tk } := fun t h' tk e kp => by
    subst e
    exact ⟨.str d.shown, H, I.kept kp, ⟨t, rfl⟩, q⟩
  cases pt with
  | non => exact PySem.P.repr_of_none (fin _ _ _ rfl fun _ _ e => e)
  | bl b => exact PySem.P.repr_of_bool (fin _ _ _ rfl fun _ _ e => e)
  | int i t => exact PySem.P.repr_of_int (of_decide_eq_true sm.2.1) (fin _ _ _ rfl fun _ _ e => e)
  | str z t => exact PySem.P.repr_of_str (fin _ _ _ rfl fun _ _ e => e) fit
  | @lst a o vs m xs h1 h2 h3 l k =>
    obtain ⟨bs, hb, hk⟩ := allK l k
    have hna : a ∉ bs := not_mem_of_deeper rd (by simp only [PyData.depth]; omega) hb
    have dp : PyData.depthAll xs + 1 ≤ n := dp
    refine call_repr_slot (by omega) ⟨o, h1, h2⟩ F.slot_list_repr.toG ?_
    obtain ⟨vl⟩ := vs
    cases vl with
    | nil =>
      cases xs with
      | nil => exact call_list_repr_empty ⟨o, h1, h2⟩ h1 h3 ⟨_, _, rfl, fin _ _ _ (by simp only [PyData.shown, PyData.shownAll, listText_nil]) fun _ _ e => e⟩
      | cons x xs => cases l
    | cons x vl => exact call_list_reprK h1 h2 h3 hna (by simpa using hk.length_eq) (fun i y e => hk.item i y (by simpa using e)) hg (fun b _ => Clear.nil b) (by show X.A.units + 1 + _ < cLine; omega) (fun _ _ e => e) (fun h' u tk kp => ⟨_, _, rfl, fin _ _ _ (by simp only [PyData.shown]) kp⟩) (by simpa only [PyData.shown] using fit)
  | @tup a o vs m xs h1 h2 h3 l k =>
    obtain ⟨bs, hb, hk⟩ := allK l k
    have hna : a ∉ bs := not_mem_of_deeper rd (by simp only [PyData.depth]; omega) hb
    have dp : PyData.depthAll xs + 1 ≤ n := dp
    exact call_repr_slot (by omega) ⟨o, h1, h2⟩ F.slot_tuple_repr (call_tuple_reprK h1 h2 h3 hna hk hg (fun b _ => Clear.nil b) (by show X.A.units + 1 + _ < cLine; omega) (fun _ _ e => e) (fun h' u tk kp => ⟨_, _, rfl, fin _ _ _ (by simp only [PyData.shown]) kp⟩) (by simpa only [PyData.shown] using fit))
  | @dct a o es m kvs h1 h2 h3 sy l1 l2 k1 k2 =>
    obtain ⟨b1, hb1, q1⟩ := allK (ds := kvs.map (·.1)) (by simpa using l1) k1
    obtain ⟨b2, hb2, q2⟩ := allK (ds := kvs.map (·.2)) (by simpa using l2) k2
    have hb : ReadAtMost s.heap (PyData.depthKv kvs) (b1 ++ b2) := (hb1.mono (PyData.depthAll_keys_le kvs)).append (hb2.mono (PyData.depthAll_vals_le kvs))
    have hna : a ∉ b1 ++ b2 := not_mem_of_deeper rd (by simp only [PyData.depth]; omega) hb
    have dp : PyData.depthKv kvs + 1 ≤ n := dp
    exact call_repr_slot (by omega) ⟨o, h1, h2⟩ F.slot_dict_repr (call_dict_reprK h1 h2 h3 sy hna (ReprEntriesK.of_two es.toList _ _ (q1.more_le (fun b hb => List.mem_append_left _ hb) (PyData.depthAll_keys_le kvs)) (q2.more_le (fun b hb => List.mem_append_right _ hb) (PyData.depthAll_vals_le kvs))) hg (fun b _ => Clear.nil b) (by show X.A.units + 1 + _ < cLine; omega) (fun _ _ e => e) (fun h' u tk kp => ⟨_, _, rfl, fin _ _ _ (by simp only [PyData.shown, PyData.shownKv_eq]) kp⟩) (by rw [← PyData.shownKv_eq]; simpa only [PyData.shown] using fit))
end
end Kx

set_option maxHeartbeats 4000000
namespace Kx
open PySem L2
/-- the heap but for the hand -/
def wo (p : Addr) (H : Hp) : Hp := fun b => if b = p then none else H b
theorem wo_same {H : Hp} {p : Addr} : Same (wo p H) H := fun b o e => by
  unfold wo at e
  by_cases h : b = p
  · rw [if_pos h] at e; cases e
  · rw [if_neg h] at e; exact e
theorem wo_ne {H : Hp} {p b : Addr} (h : b ≠ p) : wo p H b = H b := if_neg h
theorem wo_keep {H H' : Hp} {p : Addr} (k : Keep H H' p) : Same (wo p H) (wo p H') := fun b o e => by
  unfold wo at e ⊢
  by_cases h : b = p
  · rw [if_pos h] at e; cases e
  · rw [if_neg h] at e ⊢; exact k b o e h
theorem wo_at {H : Hp} {p b : Addr} {o : HO} (h : H b = some o) (n : b ≠ p) : wo p H b = some o := by rw [wo_ne n]; exact h
theorem wo_mono {H H' : Hp} {p : Addr} (s : Same H H') : Same (wo p H) (wo p H') := wo_keep fun b o e _ => s b o e
/-- which row it is -/
theorem Dd.row {H : Hp} {n : Nat} {y : V} {d : PyData} (h : Dd H n y d) : ∃ r, RowIs H y r := by
  have one : ∀ {m : Nat} {xs : List V} {ds : List PyData}, xs.length = ds.length → (∀ (i : Nat) (x : V) (d : PyData), xs[i]? = some x → ds[i]? = some d → Dd H m x d) → (∃ a b t u, xs = [a, b] ∧ Thing H a t ∧ Thing H b u) ∨ xs.length ≠ 2 := fun {m xs ds} e f => by
    match xs, ds, e with
    | [], _, _ => exact .inr (by simp)
    | [_], _, _ => exact .inr (by simp)
    | _ :: _ :: _ :: _, _, _ => exact .inr (by simp)
    | [a, b], [da, db], _ =>
      obtain ⟨t, ht⟩ := (f 0 a da rfl rfl).thing
      obtain ⟨u, hu⟩ := (f 1 b db rfl rfl).thing
      exact .inl ⟨a, b, t, u, rfl, ht, hu⟩
    | [_, _], [], e => cases e
    | [_, _], [_], e => cases e
    | [_, _], _ :: _ :: _ :: _, e => cases e
  cases h with
  | non => exact ⟨_, .oth .non rfl⟩
  | bl b => exact ⟨_, .oth (.bl b) rfl⟩
  | int i h => exact ⟨_, .oth (.int i) rfl⟩
  | str z h => exact ⟨_, .oth (.str z) rfl⟩
  | lst h l e f =>
    rcases one e f with ⟨a, b, t, u, rfl, ht, hu⟩ | q
    · exact ⟨_, .lst h ht hu⟩
    · exact ⟨_, .lstN h q⟩
  | tup h l e f =>
    rcases one e f with ⟨a, b, t, u, rfl, ht, hu⟩ | q
    · exact ⟨_, .tup h ht hu⟩
    · exact ⟨_, .tupN h q⟩
  | dct h hz hv => exact ⟨_, .oth (.dct _ _ h) rfl⟩
theorem allR_of {H : Hp} {m : Nat} : ∀ {xs : List V} {ds : List PyData}, xs.length = ds.length → (∀ (i : Nat) (x : V) (d : PyData), xs[i]? = some x → ds[i]? = some d → Dd H m x d) → ∃ rs, AllR H xs rs
  | [], _, _, _ => ⟨[], rfl, fun i y r e => by cases e⟩
  | x :: xs, [], e, _ => by cases e
  | x :: xs, d :: ds, e, f => by
    obtain ⟨r, hr⟩ := (f 0 x d rfl rfl).row
    obtain ⟨rs, h1, h2⟩ := allR_of (xs := xs) (ds := ds) (Nat.succ.inj e) fun i x d e1 e2 => f (i + 1) x d e1 e2
    refine ⟨r :: rs, congrArg Nat.succ h1, fun i y q e1 e2 => ?_⟩
    cases i with
    | zero => cases e1; cases e2; exact hr
    | succ i => exact h2 i y q e1 e2
theorem Dd.rows {H : Hp} {n : Nat} {y : V} {d : PyData} (h : Dd H n y d) : ∃ r, RowsIs H y r := by
  cases h with
  | non => exact ⟨_, .oth .non rfl⟩
  | bl b => exact ⟨_, .oth (.bl b) rfl⟩
  | int i h => exact ⟨_, .oth (.int i) rfl⟩
  | str z h => exact ⟨_, .oth (.str z) rfl⟩
  | lst h l e f => obtain ⟨rs, q⟩ := allR_of e f; exact ⟨_, .lst h q (by omega)⟩
  | tup h l e f => obtain ⟨rs, q⟩ := allR_of e f; exact ⟨_, .tup h q (by omega)⟩
  | dct h hz hv => exact ⟨_, .oth (.dct _ _ h) rfl⟩
theorem things_of {H : Hp} {m : Nat} {xs : List V} {ds : List PyData} (e : xs.length = ds.length) (f : ∀ (i : Nat) (x : V) (d : PyData), xs[i]? = some x → ds[i]? = some d → Dd H m x d) : ∀ x ∈ xs, ∃ n, Thing H x n := fun x hx => by
  obtain ⟨i, hi⟩ := List.mem_iff_getElem?.mp hx
  have lt : i < ds.length := by rw [← e]; exact (List.getElem?_eq_some_iff.mp hi).1
  exact (f i x _ hi (List.getElem?_eq_getElem lt)).thing
theorem Dd.deed {H : Hp} {n : Nat} {y : V} {d : PyData} (h : Dd H n y d) : ∃ r, DeedIs H y r := by
  cases h with
  | non => exact ⟨_, .oth .non rfl⟩
  | bl b => exact ⟨_, .oth (.bl b) rfl⟩
  | int i h => exact ⟨_, .oth (.int i) rfl⟩
  | str z h => exact ⟨_, .oth (.str z) rfl⟩
  | lst h l e f => exact ⟨_, .lst h (things_of e f) (by omega)⟩
  | tup h l e f => exact ⟨_, .tup h (things_of e f) (by omega)⟩
  | dct h hz hv => exact ⟨_, .oth (.dct _ _ h) rfl⟩
theorem inV_strs (z : Str) : ∀ ys : List Str, inV (.str z) (ys.map V.str) = decide (z ∈ ys)
  | [] => rfl
  | y :: ys => by
    have ih := inV_strs z ys
    show (eqV (.str y) (.str z) || inV (.str z) (ys.map V.str)) = _
    rw [ih]
    by_cases e : z = y
    · subst e
      simp [eqV]
    · have e' : ¬ y = z := fun q => e q.symm
      simp [eqV, e, e']
end Kx

set_option maxHeartbeats 4000000
namespace Kx
open PySem L2
/-- x is the pair q -/
def PairIs (H : Hp) (x : V) (q : Str × Int) : Prop := ∃ t, x = .ref t ∧ (H t = some (.lst [.str q.1, .int q.2]) ∨ H t = some (.tup [.str q.1, .int q.2]))
theorem PairIs.keep {H H' : Hp} {x : V} {q : Str × Int} (h : PairIs H x q) (s : Same H H') : PairIs H' x q := by
  obtain ⟨t, e, h⟩ := h
  exact ⟨t, e, h.imp (s _ _) (s _ _)⟩
/-- xs are the pairs ks -/
def ItemsAt (H : Hp) (xs : List V) (ks : List (Str × Int)) : Prop := xs.length = ks.length ∧ ∀ (i : Nat) (x : V) (q : Str × Int), xs[i]? = some x → ks[i]? = some q → PairIs H x q
theorem ItemsAt.keep {H H' : Hp} {xs : List V} {ks : List (Str × Int)} (h : ItemsAt H xs ks) (s : Same H H') : ItemsAt H' xs ks := ⟨h.1, fun i x q e1 e2 => (h.2 i x q e1 e2).keep s⟩
theorem ItemsAt.add {H : Hp} {xs : List V} {ks : List (Str × Int)} {x : V} {q : Str × Int} (h : ItemsAt H xs ks) (hx : PairIs H x q) : ItemsAt H (xs ++ [x]) (ks ++ [q]) := by
  refine ⟨by simp [h.1], fun i y r e1 e2 => ?_⟩
  by_cases lt : i < xs.length
  · rw [List.getElem?_append_left lt] at e1
    rw [List.getElem?_append_left (by rw [← h.1]; exact lt)] at e2
    exact h.2 i y r e1 e2
  · have e : i = xs.length := by
      have := (List.getElem?_eq_some_iff.mp e1).1
      simp at this
      omega
    subst e
    rw [List.getElem?_append_right (by omega), Nat.sub_self] at e1
    rw [h.1, List.getElem?_append_right (by omega), Nat.sub_self] at e2
    cases e1
    cases e2
    exact hx
def GoodL (H : Hp) (b : Addr) (ks : List (Str × Int)) : Prop := ∃ xs, H b = some (.lst xs) ∧ ItemsAt H xs ks
theorem GoodL.keep {H H' : Hp} {b : Addr} {ks : List (Str × Int)} (h : GoodL H b ks) (s : Same H H') : GoodL H' b ks := by
  obtain ⟨xs, h1, h2⟩ := h
  exact ⟨xs, s _ _ h1, h2.keep s⟩
structure GoodK (ks : List (Str × Int)) : Prop where
  lo : 1 ≤ ks.length
  hi : ks.length ≤ 6
  each : ∀ q ∈ ks, isLab q.1 = true ∧ ¬ q.1 = Str.ofString "year" ∧ 0 ≤ q.2 ∧ q.2 ≤ 2
  nd : (ks.map (·.1)).Nodup
def lastOf (z : Str) : Option Nat := z.cps.toList.getLast?
theorem abcdef_at : ∀ n : Fin 6, (Str.ofString "abcdef").cps.toList[n.1]? = some (97 + n.1) := by decide +kernel
theorem abcdef_ix {i : Nat} (h : i < 6) : atI (Str.ofString "abcdef").cps.toList ((0 : Int) + i) = some (97 + i) := by
  rw [Int.zero_add]
  exact atI_nat (abcdef_at ⟨i, h⟩)
theorem lab_of {z : Str} (h1 : 1 ≤ z.length) (h2 : z.length ≤ 6) (h3 : Low z) : isLab z = true := by
  unfold isLab
  rw [decide_eq_true h1, decide_eq_true h2, Bool.true_and, Bool.true_and]
  refine List.all_eq_true.mpr fun c hc => ?_
  have := h3 c hc
  unfold isLow
  simp only [Bool.and_eq_true, decide_eq_true_eq]
  omega
theorem last_app (z : Str) (n : Nat) : lastOf (z ++ ⟨#[n]⟩) = some n := by
  unfold lastOf
  rw [cps_app]
  simp
theorem last_year : lastOf (Str.ofString "year") = some 114 := by decide +kernel
theorem nd_last : ∀ {ks : List (Str × Int)} {m : Nat}, (∀ (i : Nat) (q : Str × Int), ks[i]? = some q → lastOf q.1 = some (m + i)) → (ks.map (·.1)).Nodup
  | [], _, _ => List.nodup_nil
  | q :: ks, m, h => by
    rw [List.map_cons, List.nodup_cons]
    refine ⟨fun hm => ?_, nd_last (m := m + 1) fun i r e => by rw [h (i + 1) r e]; congr 1; omega⟩
    obtain ⟨r, hr, e⟩ := List.mem_map.mp hm
    obtain ⟨i, hi⟩ := List.mem_iff_getElem?.mp hr
    have e1 := h 0 q rfl
    have e2 := h (i + 1) r hi
    rw [e, e1] at e2
    have := Option.some.inj e2
    omega
def spLKinds : Sp := fun vs H Q _ => ∃ p q : Addr, vs = [.ref p] ∧ HandAt H p q ∧ ∀ (b : Addr) (ks : List (Str × Int)) (H' : Hp), GoodK ks → (∀ r ∈ ks, ¬ r.1 = Str.ofString "zzzzzz") → GoodL (wo p H') b ks → H b = none → HandAt H' p q → Keep H H' p → Q (.ref b) H'
section
variable {P : Program} {w : World} {K : PySem.W.Frag} {mg : Str → Option Value} {base : Heap}
theorem scLKinds : FnScope ["_law_hand_here", "_law_rows", "_law_k"] ["_law_hand_here"] (defScope sLKinds) := ⟨rfl, rfl, rfl, by decide +kernel, rfl, by decide +kernel, by decide +kernel⟩
theorem ok_lkinds {f : Addr} {fd : FuncData} (F : Fun K "_law_kinds" "_law_kinds" sLKinds f fd) (m : mg "_law_kinds" = some (.ref f)) (T : Bl mg) (D : HasF P w K mg base "_law_draw" 2 ["_law_hand_here", "_law_many"] spDraw) (W : HasF P w K mg base "_law_word" 3 ["_law_hand_here", "_law_most"] spWord) : HasF P w K mg base "_law_kinds" 4 ["_law_hand_here"] spLKinds := by
  refine ⟨f, fd, ?_, m, F.kp, F.binds fun _ _ _ _ _ _ us hl => match us, hl with | [_], _ => rfl⟩
  obtain ⟨f1, fd1, D⟩ := D; obtain ⟨f2, fd2, W⟩ := W
  refine F.ok scLKinds (fun vs H Q E h => ?_) (fun cdv A outer s H vs Q E hr h => ?_)
  · obtain ⟨a, b, rfl, _⟩ := h
    rfl
  · obtain ⟨p, q, rfl, hp, k⟩ := h
    have hr2 : Room 2 _ := hr.mono (by decide)
    refine ⟨_, (pss_cons (ps_set (i := 1) scLKinds.nd rfl (Or.inl rfl) (pe_lst pa_nil))
    (pss_cons (ps_for PassesOwn.never rfl (pi_range1 (by rfl) T.range (pa_cons (pe_op op_add pe_int (pe_call D.G hr2 (by rfl) D.m D.kp D.b .nil pass0 (pa_cons (pv 0) (pa_cons pe_int pa_nil)))) pa_nil)) (pg_name (i := 2) scLKinds.nd rfl (.inl rfl))
        (pss_one (ps_expr (pe_bm PySem.F.plainAttrs_list PySem.F.slot_list_append PySem.F.type_list_append mt_append (pv 1) (pa_cons (pe_tup (pa_cons (pe_op op_add_str (pe_call W.G hr (by rfl) W.m W.kp W.b .nil pass0 (pa_cons (pv 0) (pa_cons pe_int pa_nil))) (pe_ix ix_str pe_str (pv 2) (fun _ _ => rfl))) (pa_cons (pe_call D.G hr2 (by rfl) D.m D.kp D.b .nil pass0 (pa_cons (pv 0) (pa_cons pe_int pa_nil))) pa_nil))) pa_nil)))))
    (pss_one (ps_ret (pv 1))))), ?_⟩
    refine ⟨Nat.zero_le _, fun a ha => ?_⟩
    have nap := hp.ap ha
    have naq := hp.aq ha
    refine ⟨_, rfl, p, q, 6, rfl, hp.upd nap naq, by decide, by decide, fun z H1 z0 z1 hp1 k1 => ?_⟩
    have k1' : Keep H H1 p := fun b u e ne => k1 b u (by rw [upd_ne (ne_of_none e ha)]; exact e) ne
    refine ⟨_, _, rfl, rfl, _, rfl, by omega, by omega, for_range (n := (1 + z).toNat) (fun i σ H2 => ∃ (xs : List V) (ks : List (Str × Int)) (v : Option V), σ = [some (.ref p), some (.ref a), v] ∧ ks.length = i ∧ H2 a = some (.lst xs) ∧ ItemsAt (wo a (wo p H2)) xs ks ∧
        (∀ r ∈ ks, isLab r.1 = true ∧ 0 ≤ r.2 ∧ r.2 ≤ 2) ∧ (∀ (j : Nat) (r : Str × Int), ks[j]? = some r → lastOf r.1 = some (97 + j)) ∧ HandAt H2 p q ∧ Keep H H2 p)
      ⟨[], [], none, rfl, rfl, k1 a _ upd_same nap, ⟨rfl, fun i x r e => by cases e⟩, (fun r hr => nomatch hr), (fun j r e => by cases e), hp1, k1'⟩ ?_ ?_⟩
    · rintro i σ H2 hi ⟨xs, ks, v, rfl, hl, ha2, it, ea, la, hp2, k2⟩
      have i6 : i < 6 := by omega
      refine ⟨_, rfl, .inl ⟨rfl, _, SqL.of ha2⟩, _, rfl, p, q, 5, rfl, hp2, by decide, by decide, fun y H3 y0 y1 low hp3 k3 => ?_⟩
      have y1 : y.length ≤ 5 := y1
      refine ⟨_, rfl, _, _, _, rfl, rfl, by decide, abcdef_ix i6, _, _, rfl, rfl, (by show y.length + 1 ≤ sizeLine; exact small1000 (by omega)), ?_⟩
      refine ⟨_, rfl, p, q, 3, rfl, hp3, by decide, by decide, fun u H4 u0 u1 hp4 k4 => ?_⟩
      refine ⟨(by show 2 ≤ sizeLine; decide), fun t ht => ?_⟩
      have k5 : Keep H2 H4 p := k3.trans k4
      have ha4 : H4 a = some (.lst xs) := k5 a _ ha2 nap
      have ta : t ≠ a := (ne_of_none ha4 ht).symm
      have tp : t ≠ p := hp4.ap ht
      have len : (y ++ (⟨#[97 + i]⟩ : Str)).length = y.length + 1 := by rw [len_app]; rfl
      have it4 : ItemsAt (wo a (wo p (upd (upd H4 t (.tup [.str (y ++ ⟨#[97 + i]⟩), .int u])) a (.lst (xs ++ [.ref t]))))) xs ks := by
        refine it.keep (fun c o e => ?_)
        have ca : c ≠ a := fun h => by rw [h] at e; unfold wo at e; rw [if_pos rfl] at e; cases e
        rw [wo_ne ca] at e ⊢
        have cp : c ≠ p := fun h => by rw [h] at e; unfold wo at e; rw [if_pos rfl] at e; cases e
        rw [wo_ne cp] at e ⊢
        have e4 := k5 c o e cp
        rw [upd_ne ca, upd_ne (ne_of_none e4 ht)]
        exact e4
      have low' : Low (y ++ ⟨#[97 + i]⟩) := low.app (Low.one (by omega))
      refine ⟨a, xs, _, rfl, rfl, by rw [upd_ne ta.symm]; exact ha4, small1000 (by rw [it.1, hl]; omega), xs ++ [.ref t], ks ++ [(y ++ ⟨#[97 + i]⟩, u)], _, rfl, by simp [hl], upd_same, it4.add ⟨t, rfl, .inr ?_⟩, fun r hr => ?_, fun j r e => ?_, ?_, ?_⟩
      · rw [wo_ne ta, wo_ne tp, upd_ne ta, upd_same]
      · rcases List.mem_append.mp hr with e | e
        · exact ea r e
        · rw [List.mem_singleton.mp e]
          exact ⟨lab_of (by rw [len]; omega) (by rw [len]; omega) low', u0, by show u ≤ 2; omega⟩
      · by_cases lt : j < ks.length
        · rw [List.getElem?_append_left lt] at e
          exact la j r e
        · have ej : j = i := by
            have := (List.getElem?_eq_some_iff.mp e).1
            simp at this
            omega
          subst ej
          rw [List.getElem?_append_right (by omega), hl, Nat.sub_self] at e
          cases e
          exact last_app _ _
      · exact (hp4.upd tp (hp4.aq ht)).upd nap naq
      · refine fun c o e ne => ?_
        have e4 := k4 c o (k3 c o (k2 c o e ne) ne) ne
        rw [upd_ne (ne_of_none e ha), upd_ne (ne_of_none e4 ht)]
        exact e4
    · rintro σ H2 ⟨xs, ks, v, rfl, hl, ha2, it, ea, la, hp2, k2⟩
      refine ⟨_, rfl, k a ks H2 ⟨by omega, by omega, fun r hr => ⟨(ea r hr).1, fun e => ?_, (ea r hr).2⟩, nd_last la⟩ (fun r hr e => ?_) ⟨xs, wo_at ha2 nap, it.keep wo_same⟩ ha hp2 k2⟩
      · obtain ⟨j, hj⟩ := List.mem_iff_getElem?.mp hr
        have e1 := la j r hj
        rw [e, last_year] at e1
        have := Option.some.inj e1
        have lt := (List.getElem?_eq_some_iff.mp hj).1
        omega
      · obtain ⟨j, hj⟩ := List.mem_iff_getElem?.mp hr
        have e1 := la j r hj
        rw [e, show lastOf (Str.ofString "zzzzzz") = some 122 by decide +kernel] at e1
        have := Option.some.inj e1
        have lt := (List.getElem?_eq_some_iff.mp hj).1
        omega
end
end Kx

set_option maxHeartbeats 4000000
namespace Kx
open PySem L2
abbrev Dds (H : Hp) (n : Nat) (xs : List V) (ds : List PyData) : Prop := Paired (fun x d => Dd H n x d) xs ds
theorem Dds.get {H : Hp} {n : Nat} {xs : List V} {ds : List PyData} (h : Dds H n xs ds) : ∀ (i : Nat) (x : V) (d : PyData), xs[i]? = some x → ds[i]? = some d → Dd H n x d := by
  induction h with
  | nil => intro i x d e; cases e
  | cons h t ih =>
    intro i x d e1 e2
    cases i with
    | zero => cases e1; cases e2; exact h
    | succ i => exact ih i x d e1 e2
theorem Dd.lstP {H : Hp} {n : Nat} {a : Addr} {xs : List V} {ds : List PyData} (h : H a = some (.lst xs)) (l : xs.length ≤ 10) (hs : Dds H n xs ds) : Dd H (n + 1) (.ref a) (.list ds) := .lst h l (Paired.length hs) hs.get
theorem Dd.tupP {H : Hp} {n : Nat} {a : Addr} {xs : List V} {ds : List PyData} (h : H a = some (.tup xs)) (l : xs.length ≤ 10) (hs : Dds H n xs ds) : Dd H (n + 1) (.ref a) (.tuple ds) := .tup h l (Paired.length hs) hs.get
theorem Dds.of {H : Hp} {n : Nat} : ∀ {xs : List V} {ds : List PyData}, xs.length = ds.length → (∀ (i : Nat) (x : V) (d : PyData), xs[i]? = some x → ds[i]? = some d → Dd H n x d) → Dds H n xs ds
  | [], [], _, _ => .nil
  | [], _ :: _, e, _ => by cases e
  | _ :: _, [], e, _ => by cases e
  | _ :: _, _ :: _, e, f => .cons (f 0 _ _ rfl rfl) (Dds.of (Nat.succ.inj e) fun i x d e1 e2 => f (i + 1) x d e1 e2)
theorem Dds.keep {H H' : Hp} {n : Nat} {xs : List V} {ds : List PyData} (h : Dds H n xs ds) (s : Same H H') : Dds H' n xs ds := by
  induction h with
  | nil => exact .nil
  | cons h t ih => exact .cons (h.keep s) ih
theorem Dds.up {H : Hp} {n : Nat} {xs : List V} {ds : List PyData} (h : Dds H n xs ds) : Dds H (n + 1) xs ds := by
  induction h with
  | nil => exact .nil
  | cons h t ih => exact .cons h.up ih
/-- what is new since H -/
def nw (H H' : Hp) : Hp := fun a => match H a with
  | none => H' a
  | some _ => none
theorem nw_at {H H' : Hp} {a : Addr} {o : HO} (h0 : H a = none) (h : H' a = some o) : nw H H' a = some o := by
  unfold nw
  rw [h0]
  exact h
theorem nw_get {H H' : Hp} {a : Addr} {o : HO} (h : nw H H' a = some o) : H a = none ∧ H' a = some o := by
  unfold nw at h
  cases e : H a with
  | none => rw [e] at h; exact ⟨rfl, h⟩
  | some u => rw [e] at h; cases h
theorem nw_wo {H H' : Hp} {p : Addr} {o : HO} (hp : H p = some o) : Same (nw H H') (wo p H') := fun a u e => by
  obtain ⟨e0, e1⟩ := nw_get e
  exact wo_at e1 fun h => by rw [h, hp] at e0; cases e0
def spOdd2 : Sp := fun vs H Q _ => ∃ p q : Addr, vs = [.ref p] ∧ HandAt H p q ∧ ∀ (x : V) (d : PyData) (H' : Hp), Dd (nw H H') 1 x d → HandAt H' p q → Keep H H' p → Q x H'
section
variable {P : Program} {w : World} {K : PySem.W.Frag} {mg : Str → Option Value} {base : Heap}
theorem ok_odd2 {f : Addr} {fd : FuncData} (F : Fun K "_law_odd" "_law_odd" sOdd f fd) (m : mg "_law_odd" = some (.ref f)) (W : HasF P w K mg base "_law_word" 3 ["_law_hand_here", "_law_most"] spWord) (O : HasF P w K mg base "_law_one" 3 ["_law_hand_here", "_law_rows"] spOne) : HasF P w K mg base "_law_odd" 4 ["_law_hand_here"] spOdd2 := by
  refine ⟨f, fd, ?_, m, F.kp, F.binds fun _ _ _ _ _ _ us hl => match us, hl with | [_], _ => rfl⟩
  obtain ⟨f2, fd2, W⟩ := W; obtain ⟨f3, fd3, O⟩ := O
  refine F.ok scOdd (fun vs H Q E h => ?_) (fun cdv A outer s H vs Q E hr h => ?_)
  · obtain ⟨a, b, rfl, _⟩ := h
    rfl
  · obtain ⟨p, q, rfl, hp, k⟩ := h
    refine ⟨_, pss_cons (ps_set (i := 1) scOdd.nd rfl (Or.inl rfl) (pe_call W.G hr (by rfl) W.m W.kp W.b .nil pass0 (pa_cons (pv 0) (pa_cons pe_int pa_nil))))
      (pss_one (ps_ret (pe_call O.G hr (by rfl) O.m O.kp O.b .nil pass0 (pa_cons (pv 0) (pa_cons (pe_lst (pa_cons pe_non (pa_cons pe_int (pa_cons pe_bl (pa_cons pe_str (pa_cons (pe_upper (pv 1)) (pa_cons (pe_op op_add_str (pv 1) pe_str) (pa_cons (pe_op op_add_str (pv 1) pe_str) (pa_cons (pe_tup (pa_cons (pv 1) pa_nil)) (pa_cons (pe_lst (pa_cons (pv 1) pa_nil)) (pa_cons (pe_un un_neg pe_int) (pa_cons (pe_op op_add_str (pv 1) pe_str) (pa_cons (pv 1) (pa_cons (pe_disp (pps_cons (pv 1) (pv 1) pps_nil) (by rfl) (by rfl) (fun z => by cases z) (by decide)) pa_nil)))))))))))))) pa_nil))))), ?_⟩
    refine ⟨_, rfl, p, q, 5, rfl, hp, by decide, by decide, fun z H1 z0 z1 low hp1 k1 => ?_⟩
    have z1 : z.length ≤ 5 := z1
    have add : ∀ t : Str, t.length ≤ 20 → z.length + t.length ≤ sizeLine := fun t ht => Nat.le_of_lt (small1000 (by omega))
    refine ⟨_, rfl, _, rfl, ⟨_, rfl⟩, _, rfl, rfl, by omega, _, rfl, _, _, rfl, rfl, add _ (by decide +kernel), _, rfl, _, _, rfl, rfl, add _ (by decide +kernel), _, rfl, (by show 1 ≤ sizeLine; decide), fun t ht => ?_⟩
    refine ⟨_, rfl, (by show 1 ≤ sizeLine; decide), fun l hl => ?_⟩
    refine ⟨_, rfl, _, rfl, _, _, rfl, rfl, add _ (by decide +kernel), _, rfl, fun d hd => ?_⟩
    refine ⟨_, rfl, _, rfl, upd_same, [(Sum.inr z, .str z)], rfl, (by show 1 ≤ 15; decide), (by show 13 ≤ sizeLine; decide), fun r hr => ?_⟩
    rw [upd_upd] at hr ⊢
    obtain ⟨hl0, lt⟩ := none2 hl
    obtain ⟨hd1, dl⟩ := none2 hd
    obtain ⟨hd0, dt⟩ := none2 hd1
    obtain ⟨hr2, rd⟩ := none2 hr
    obtain ⟨hr1, rl⟩ := none2 hr2
    obtain ⟨hr0, rt⟩ := none2 hr1
    have back : ∀ a, H1 a = none → H a = none := fun a h => by
      cases e : H a with
      | none => rfl
      | some o => exact absurd h (by rw [k1 a o e (hp1.ap h)]; exact fun z => nomatch z)
    refine ⟨p, q, r, _, rfl, (((hp1.upd (hp1.ap ht) (hp1.aq ht)).upd (hp1.ap hl0) (hp1.aq hl0)).upd (hp1.ap hd0) (hp1.aq hd0)).upd (hp1.ap hr0) (hp1.aq hr0), upd_same, hp1.ap hr0, (by show 0 < 13; decide), (by show 13 ≤ 1000; decide), fun x H5 hx hp5 k5 => ?_⟩
    have kk : Keep H H5 p := (keepUpd (keepUpd (keepUpd (keepUpd k1 (back t ht)) (back l hl0)) (back d hd0)) (back r hr0)).trans k5
    have at_t : H5 t = some (.tup [.str z]) := k5 t _ (by rw [upd_ne rt.symm, upd_ne dt.symm, upd_ne lt.symm, upd_same]) (hp1.ap ht)
    have at_l : H5 l = some (.lst [.str z]) := k5 l _ (by rw [upd_ne rl.symm, upd_ne dl.symm, upd_same]) (hp1.ap hl0)
    have at_d : H5 d = some (.dK (mergeK [] [(Sum.inr z, .str z)])) := k5 d _ (by rw [upd_ne rd.symm, upd_same]) (hp1.ap hd0)
    have fz : Fine z := fine_low low (by omega)
    have pt : t ≠ p := hp1.ap ht
    have pl : l ≠ p := hp1.ap hl0
    have pd : d ≠ p := hp1.ap hd0
    simp only [List.mem_cons, List.not_mem_nil, or_false] at hx
    rcases hx with e | e | e | e | e | e | e | e | e | e | e | e | e <;> subst e
    · exact k _ _ _ .non hp5 kk
    · exact k _ _ _ (.int _ (by decide)) hp5 kk
    · exact k _ _ _ (.bl _) hp5 kk
    · exact k _ _ _ (.str _ ⟨by decide +kernel, by decide +kernel⟩) hp5 kk
    · exact k _ _ _ (.str _ (fine_up low (by omega))) hp5 kk
    · exact k _ _ _ (.str _ (fine_app fz (by omega) (by decide +kernel) (by decide +kernel))) hp5 kk
    · exact k _ _ _ (.str _ (fine_app fz (by omega) (by decide +kernel) (by decide +kernel))) hp5 kk
    · exact k _ _ _ (Dd.tupP (nw_at (back t ht) at_t) (by show 1 ≤ 10; decide) (.cons (.str z fz) .nil)) hp5 kk
    · exact k _ _ _ (Dd.lstP (nw_at (back l hl0) at_l) (by show 1 ≤ 10; decide) (.cons (.str z fz) .nil)) hp5 kk
    · exact k _ _ _ (.int _ (by decide)) hp5 kk
    · exact k _ _ _ (.str _ (fine_app fz (by omega) (by decide +kernel) (by decide +kernel))) hp5 kk
    · exact k _ _ _ (.str _ fz) hp5 kk
    · exact k _ _ _ (.dct (nw_at (back d hd0) at_d) fz (.str z fz)) hp5 kk
end
end Kx

set_option maxHeartbeats 4000000
namespace Kx
open PySem PySem.Spec PySem.Calls PyProof.Rows PySem.W
section
variable {prog : Program} {w : World} {A : Around} {E : Value → Shared → Prop} {s : Shared} {K : Frag} {x D : Addr} {ox : Obj}
theorem findObj_dataO {C : Addr} {od : Option Obj} {name : Str} {a g : Value} (hc : (clsIn K C).isSome = true) (ha : findIn K (.ref C) name = some (some a)) (hg : specialIn K a "__get__" = some (some g)) (ht : takesIn K a = some true) : findObj K C od name = some (.bind g a) := by
  obtain ⟨cd, hc⟩ := Option.isSome_iff_exists.mp hc
  unfold findObj
  rw [hc, Option.bind_some, ha, Option.bind_some]
  simp [hg, ht]
theorem kin_classO {od : Option Obj} {Q : Option Value → Shared → Prop} (hga : findIn K (.ref D) "__getattribute__" = some (some (.builtin "BaseException.__getattribute__"))) (hgt : findIn K (.ref D) "__getattr__" = some none) (hsub : subIn K (.ref D) (.type "BaseException") = some true)
    (hdct : hasDictIn K D = true) (ha : findIn K (.ref D) "__class__" = some (some (.builtin "object.__class__")))
    (hn : specialIn K (.builtin "object.__class__") "__get__" = some (some (.builtin "getset_descriptor.__get__"))) (htk : takesIn K (.builtin "object.__class__") = some true) (hm : mroIn K D (.type "object") = some true)
    (X : K.In s.heap) (I : InstAt s.heap x ox D od) (h : Q (some (.ref D)) { s with toks := s.toks + 1 }) : wpAny (model prog w) A (getAttr? (.ref x) "__class__") Q E s := by
  have hf : findObj K D od "__class__" = some (.bind (.builtin "getset_descriptor.__get__") (.builtin "object.__class__")) := findObj_dataO (by obtain ⟨cd, hc, _⟩ := any_some hdct; rw [hc]; rfl) ha hn htk
  obtain ⟨hp, g, d, t, os⟩ := s
  have L0 := I.type (M := model prog w)
  have L1 := looks_findIn (M := model prog w) X hga
  have L2 := looks_findIn (M := model prog w) X hgt
  have L3 := looks_find (M := model prog w) X I hf
  have sub : Looks (model prog w) hp (isInstance (.ref x) (.type "BaseException")) true := L0.andThen (looks_subIn X hsub)
  have hx0 : (false && onTheHeap (Value.builtin "BaseException.__getattribute__")) = false := rfl
  have hx2 : (Value.builtin "BaseException.__getattribute__" == Value.builtin "object.__getattribute__") = false := by decide +kernel
  have hx1 : (onTheHeap (Value.ref D) && Value.builtin "BaseException.__getattribute__" == Value.builtin "object.__getattribute__") = false := by rw [hx2]; rfl
  unfold getAttr? getAttrBy? getAttrBy
  refine wpAny_bind (wpAny_mkText (wpAny_bind (wpAny_attempt (wpAny_holding (wpAny_bind (L0.at (wpAny_bind (L1.at ?_))))))))
  show wpAny _ _ (if (onTheHeap (Value.ref D) && Value.builtin "BaseException.__getattribute__" == Value.builtin "object.__getattribute__") = true then _ else _) _ _ _
  rw [hx1, if_neg Bool.false_ne_true]
  unfold getAttrByItsOwn hookBefore
  refine wpAny_bind ?_
  rw [if_pos (show onTheHeap (Value.ref D) = true from rfl)]
  refine L2.at ?_
  refine wpAny_bind (wpAny_attempt (wpAny_holding ?_))
  unfold callGetattribute
  rw [hx0, if_neg Bool.false_ne_true]
  unfold boundAndCalled
  rw [PySem.F.excAttr_ValueError.ga.bind (.ref x)]
  refine wpAny_bind (wpAny_pure ?_)
  show wpAny _ _ (call (.builtin "BaseException.__getattribute__") [.ref x, .str "__class__" t]) _ _ _
  refine wpAny_call (codeAny_call_builtin PySem.F.excAttr_ValueError.ga.plain PySem.F.entry_bexc_ga ?_)
  refine @check_slot (model prog w) _ _ ⟨hp, g, d, t + 1, os⟩ "BaseException.__getattribute__" "BaseException" "__getattribute__" (.ref x) [.str "__class__" t] [] _ (by decide +kernel) (by decide +kernel) sub (PySem.F.args_bexc_ga (.ref x) (.str "__class__" t)) ?_
  unfold Builtin.«object.__getattribute__»
  refine wpAny_bind (wpAny_of_eq (a := ((Value.ref x : Value), [Value.str "__class__" t])) (by first | rfl | (simp only [slotArgs]; rfl)) ?_)
  refine wpAny_bind (wpAny_pure (wpAny_bind (L0.at (wpAny_bind (L3.at ?_)))))
  show wpAny _ _ (holding [Value.builtin "object.__class__"] (call (.builtin "getset_descriptor.__get__") [.builtin "object.__class__", .ref x, .ref D]) >>= ret) _ _ _
  refine wpAny_bind (wpAny_holding (wpAny_call (class_get (s := ⟨hp, g, d, t + 1, os⟩) (ox := ox) (od := od) X I hm ?_)))
  refine wpAny_pure ?_
  show wpAny _ _ (handedOut (.ref D)) _ _ _
  rw [handedOut_of (v := .ref D) rfl]
  first
    | exact wpAny_pure (wpAny_pure h)
    | exact wpAny_pure h
    | exact wpAny_pure (wpAny_bind (wpAny_pure (wpAny_pure h)))
theorem kitx_excO {od : Option Obj} (hga : findIn K (.ref D) "__getattribute__" = some (some (.builtin "BaseException.__getattribute__"))) (hgt : findIn K (.ref D) "__getattr__" = some none) (hsub : subIn K (.ref D) (.type "BaseException") = some true) (hdct : hasDictIn K D = true) (ha : findIn K (.ref D) "__class__" = some (some (.builtin "object.__class__")))
    (hn : specialIn K (.builtin "object.__class__") "__get__" = some (some (.builtin "getset_descriptor.__get__"))) (htk : takesIn K (.builtin "object.__class__") = some true) (hm : mroIn K D (.type "object") = some true) :
    KitX K (.ref x) (.ref D) (fun h => InstAt h x ox D od) where
  ty := fun _ _ _ I => I.type
  it := fun _ _ X _ => by
    obtain ⟨cdD, hcD, _⟩ := any_some hdct
    unfold clsIn at hcD
    split at hcD
    · rename_i c' d' cd' sl' ho
      intro A' Q' E' s' k q
      unfold isType loadHead
      exact wpAny_bind (wpAny_loadPart (k _ _ (X _ _ ho)) (wpAny_pure q))
    · cases hcD
  ne := fun h tp dd its n sl X htp => by
    obtain ⟨cdD, hcD, _⟩ := any_some hdct
    refine Bool.eq_false_iff.mpr fun q => ?_
    have e : D = tp := Value.ref.inj (beq_iff_eq.mp q)
    subst e
    unfold clsIn at hcD
    split at hcD
    · rename_i c' d' cd' sl' ho
      have z := (X _ _ ho).symm.trans htp
      cases z
    · cases hcD
  ca := fun X I k => kin_classO hga hgt hsub hdct ha hn htk hm X I k
end
end Kx
namespace Kx
open PySem PySem.Spec PyProof.Rows L2
/-- isinstance(e, c), e a caught error that has fields -/
def rIsEd (K : PySem.W.Frag) (a : Addr) (cls : Value) (d : Option Addr) (D : Addr) : List V → Hp → VK → Prop := fun xs H Q => cls = .ref D ∧ (d = none ∨ ∃ (dd : Addr) (fs : List (Str × V)), d = some dd ∧ H dd = some (.xd fs)) ∧ rIsE K D a xs H Q
theorem call_isEd {X : Cx} {K : PySem.W.Frag} {a D : Addr} {oe : Obj} {cls : Value} {d : Option Addr} {pn : List (Addr × Obj)} (hK : X.K = K) (C : ExcC K D) (hz : Zc cls d oe) (hf : ∃ vs, oe.data = .fields vs) : CallR (X.suite a ((a, oe) :: pn)) (.builtin "isinstance") (rIsEd K a cls d D) := by
  subst hK
  intro pins s σ H xs us Q I r h
  obtain ⟨hcl, hd, c, cv, b, rfl, hcv, e, q⟩ := h
  subst hcl
  cases r with
  | cons rx rr =>
    cases rr with
    | cons rt rr =>
      cases rr
      cases rx
      have ec := hcv _ rt
      subst ec
      obtain ⟨hget, _⟩ := I.pin (a, oe) (List.mem_append.mpr (.inl List.mem_cons_self))
      obtain ⟨vs, hv⟩ := hf
      have J : ∃ od, PySem.W.InstAt s.heap a oe D od := by
        rcases hd with hd | ⟨dd, fs, hd, he⟩
        · subst hd
          obtain ⟨oc, od, oda, osl⟩ := oe
          obtain ⟨h1, h2⟩ := hz
          dsimp only at h1 h2 hv
          subst h1 h2 hv
          exact ⟨none, hget, rfl, rfl, trivial⟩
        · subst hd
          obtain ⟨mA, hns, hr⟩ := (show ObjOk X.prog X.w H s.heap dd (.xd fs) from I.hok dd _ he)
          obtain ⟨od, ho, hl⟩ := lookIn_ns hns
          exact ⟨some od, hget, hz.1, by unfold PySem.W.notCls; rw [hv] <;> rfl, by rw [hz.2]; exact ho⟩
      obtain ⟨od, J⟩ := J
      exact PySem.W.kia_one (kitx_excO C.hg C.hk C.hs C.hd C.ha C.hn C.ht C.hm) I.kIn J e (fun z => nomatch z) fun tk => ⟨.bl b, H, I.kept (t' := tk) fun _ _ z => z, rfl, q⟩
end Kx

set_option maxHeartbeats 4000000
namespace Kx
open PySem PySem.Spec PyProof.Rows L2
/-! two lists of whatever things: of other lengths, or with the very same things at each place -/
theorem eqV_self : ∀ x : V, flatV x = true → eqV x x = true
  | .non, _ => rfl
  | .bl b, _ => by simp [eqV]
  | .int i, _ => by simp [eqV]
  | .str z, _ => by simp [eqV]
section
variable {X : Cx}
def rNeL (K : PySem.W.Frag) : R2 := fun x y H Q => ∃ a b xs ys, x = .ref a ∧ y = .ref b ∧ SqL K H a xs ∧ SqL K H b ys ∧ ((xs.length ≠ ys.length ∧ Q (.bl true) H) ∨ (xs = ys ∧ (∀ z ∈ xs, flatV z = true ∨ ∃ c, z = .ref c) ∧ Q (.bl false) H))
theorem op_neL (hu : X.A.units + 64 < cLine) : OpR X (compareOp .NotEq) (rNeL X.K) := by
  intro pins s σ H x y v u Q I rx ry h
  obtain ⟨a, b, xs, ys, rfl, rfl, ha, hb, h⟩ := h
  obtain rfl : v = Value.ref a := rx
  obtain rfl : u = Value.ref b := ry
  obtain ⟨its, rv, pl, hz⟩ := I.list ha
  obtain ⟨ius, ru, pu, hw⟩ := I.list hb
  have l1 := rv.length
  have l2 := ru.length
  rcases h with ⟨ne, q⟩ | ⟨rfl, fl, q⟩
  · exact SeqAt.RcNeAt.lists_lengths pl.isList pu.isList (by simp only [List.size_toArray, bne_iff_ne, ne_eq]; omega) (by omega) X.prog X.w X.xe _ ⟨.bl true, H, I, rfl, q⟩
  · have e := SeqAt.RcNeAt.lists (e := fun _ => true) (A := X.A) pl.isList pu.isList (by simp only [List.size_toArray]; omega) (by omega) fun j h1 h2 => by
      have hj : j < xs.length := by simp only [List.size_toArray] at h1; omega
      obtain ⟨v1, e1, r1⟩ := rv.get (List.getElem?_eq_getElem hj)
      obtain ⟨v2, e2, r2⟩ := ru.get (List.getElem?_eq_getElem hj)
      have g1 : its.toArray[j] = v1 := by
        have := (List.getElem?_eq_some_iff.mp e1).2
        simpa using this
      have g2 : ius.toArray[j] = v2 := by
        have := (List.getElem?_eq_some_iff.mp e2).2
        simpa using this
      rw [g1, g2]
      rcases fl xs[j] (List.getElem_mem hj) with f | ⟨c, ec⟩
      · have z := eqAt_V (A := X.A.in1) (s := s) r1 r2 f f
        rw [eqV_self _ f] at z
        exact z
      · rw [ec] at r1 r2
        obtain rfl : v1 = Value.ref c := r1
        obtain rfl : v2 = Value.ref c := r2
        exact SeqAt.EqAt.same _
    refine e X.prog X.w X.xe _ ⟨.bl false, H, I, ?_, q⟩
    show Value.bool _ = Value.bool false
    simp
end
end Kx

set_option maxHeartbeats 4000000
namespace Kx
open PySem L2
def rLstOf (K : PySem.W.Frag) : List V → Hp → VK → Prop := fun xs H Q => ∃ p ys, xs = [.ref p] ∧ (SqL K H p ys ∨ SqT K H p ys) ∧ ∀ l, H l = none → Q (.ref l) (upd H l (.lst ys))
theorem call_lstK {X : Cx} {K : PySem.W.Frag} (h : X.K = K) : CallR X (.type "list") (rLstOf K) := by
  subst h
  exact call_list_of
theorem ix_seqK {X : Cx} {K : PySem.W.Frag} (h : X.K = K) : IxR X (rIx K) := by
  subst h
  exact ix_seq
def spLRows : Sp := fun vs H Q _ => ∃ p q : Addr, vs = [.ref p] ∧ HandAt H p q ∧ ∀ (b : Addr) (ds : List PyData) (H' : Hp), Dd (wo p H') 3 (.ref b) (.list ds) → HandAt H' p q → Keep H H' p → Q (.ref b) H'
/-- the heap but for the hand and one list more -/
def hid (b p : Addr) (H : Hp) : Hp := wo b (wo p H)
theorem hid_at {b p c : Addr} {H : Hp} {o : HO} (h : H c = some o) (n1 : c ≠ b) (n2 : c ≠ p) : hid b p H c = some o := by
  unfold hid
  rw [wo_ne n1, wo_ne n2]
  exact h
theorem hid_keep {b p : Addr} {H H' : Hp} (k : Keep H H' p) : Same (hid b p H) (hid b p H') := wo_mono (wo_keep k)
theorem hid_wo {b p : Addr} {H : Hp} : Same (hid b p H) (wo p H) := wo_same
theorem hid_b {b p : Addr} {H : Hp} {o : HO} : Same (hid b p H) (hid b p (upd H b o)) := fun c u e => by
  unfold hid at e ⊢
  have cb : c ≠ b := fun h => by rw [h] at e; unfold wo at e; rw [if_pos rfl] at e; cases e
  rw [wo_ne cb] at e ⊢
  have cp : c ≠ p := fun h => by rw [h] at e; unfold wo at e; rw [if_pos rfl] at e; cases e
  rw [wo_ne cp] at e ⊢
  rw [upd_ne cb]
  exact e
theorem hid_get {b p c : Addr} {H : Hp} {o : HO} (h : hid b p H c = some o) : H c = some o ∧ c ≠ b ∧ c ≠ p := by
  unfold hid at h
  have cb : c ≠ b := fun e => by rw [e] at h; unfold wo at h; rw [if_pos rfl] at h; cases h
  rw [wo_ne cb] at h
  have cp : c ≠ p := fun e => by rw [e] at h; unfold wo at h; rw [if_pos rfl] at h; cases h
  rw [wo_ne cp] at h
  exact ⟨h, cb, cp⟩
/-- where we stand: the hand, the list at b, the rest as it was -/
structure Fr (b p q : Addr) (ys : List V) (H0 Hs H : Hp) : Prop where
  hb : H b = some (.lst ys)
  bp : b ≠ p
  hp : HandAt H p q
  kp : Keep H0 H p
  sm : Same (hid b p Hs) (hid b p H)
  b0 : H0 b = none
  bq : b ≠ q
theorem Fr.new {b p q l : Addr} {ys : List V} {H0 Hs H : Hp} {o : HO} (f : Fr b p q ys H0 Hs H) (hl : H l = none) : Fr b p q ys H0 Hs (upd H l o) ∧ hid b p (upd H l o) l = some o ∧ Same (hid b p H) (hid b p (upd H l o)) := by
  have lb : l ≠ b := (ne_of_none f.hb hl).symm
  have lp : l ≠ p := f.hp.ap hl
  have l0 : H0 l = none := by
    cases e : H0 l with
    | none => rfl
    | some u => exact absurd hl (by rw [f.kp l u e lp]; exact fun z => nomatch z)
  have k : Keep H (upd H l o) p := fun c u e _ => by rw [upd_ne (ne_of_none e hl)]; exact e
  exact ⟨⟨by rw [upd_ne lb.symm]; exact f.hb, f.bp, f.hp.upd lp (f.hp.aq hl), keepUpd f.kp l0, f.sm.trans (hid_keep k), f.b0, f.bq⟩, hid_at upd_same lb lp, hid_keep k⟩
theorem Fr.draw {b p q : Addr} {ys : List V} {H0 Hs H H' : Hp} (f : Fr b p q ys H0 Hs H) (k : Keep H H' p) (h : HandAt H' p q) : Fr b p q ys H0 Hs H' ∧ Same (hid b p H) (hid b p H') :=
  ⟨⟨k b _ f.hb f.bp, f.bp, h, f.kp.trans k, f.sm.trans (hid_keep k), f.b0, f.bq⟩, hid_keep k⟩
def FineK (ks : List (Str × Int)) : Prop := ∀ r ∈ ks, Low r.1 ∧ r.1.length ≤ 6 ∧ 0 ≤ r.2 ∧ r.2 ≤ 2
theorem lab_low {z : Str} (h : isLab z = true) : Low z ∧ z.length ≤ 6 := by
  unfold isLab at h
  rw [Bool.and_eq_true, Bool.and_eq_true, decide_eq_true_eq, decide_eq_true_eq] at h
  refine ⟨fun c hc => ?_, h.2.1⟩
  have h3 := List.all_eq_true.mp h.2.2 c hc
  unfold isLow at h3
  simp only [Bool.and_eq_true, decide_eq_true_eq] at h3
  omega
theorem GoodK.fine {ks : List (Str × Int)} (g : GoodK ks) : FineK ks := fun r hr => ⟨(lab_low (g.each r hr).1).1, (lab_low (g.each r hr).1).2, (g.each r hr).2.2⟩
theorem pair_dd {H : Hp} {x : V} {r : Str × Int} (h : PairIs H x r) (l : Low r.1) (l6 : r.1.length ≤ 6) (i0 : 0 ≤ r.2) (i2 : r.2 ≤ 2) : ∃ d, Dd H 1 x d := by
  obtain ⟨t, rfl, h | h⟩ := h
  · exact ⟨_, Dd.lstP h (by show 2 ≤ 10; decide) (.cons (.str _ (fine_low l (by omega))) (.cons (.int _ (by omega)) .nil))⟩
  · exact ⟨_, Dd.tupP h (by show 2 ≤ 10; decide) (.cons (.str _ (fine_low l (by omega))) (.cons (.int _ (by omega)) .nil))⟩
theorem items_dd {H : Hp} : ∀ {xs : List V} {ks : List (Str × Int)}, ItemsAt H xs ks → FineK ks → ∃ ds, Dds H 1 xs ds
  | [], _, _, _ => ⟨[], .nil⟩
  | _ :: _, [], h, _ => by cases h.1
  | x :: xs, r :: ks, h, f => by
    obtain ⟨l, l6, i0, i2⟩ := f r (.head _)
    obtain ⟨d, hd⟩ := pair_dd (h.2 0 x r rfl rfl) l l6 i0 i2
    obtain ⟨ds, hs⟩ := items_dd (xs := xs) (ks := ks) ⟨Nat.succ.inj h.1, fun i y q e1 e2 => h.2 (i + 1) y q e1 e2⟩ fun q m => f q (.tail _ m)
    exact ⟨d :: ds, .cons hd hs⟩
theorem Dds.set {H : Hp} {n : Nat} {xs : List V} {ds : List PyData} {x : V} {d : PyData} (h : Dds H n xs ds) (hd : Dd H n x d) : ∀ j, Dds H n (xs.set j x) (ds.set j d) := by
  induction h with
  | nil => intro j; exact .nil
  | cons h t ih =>
    intro j
    cases j with
    | zero => exact .cons hd t
    | succ j => exact .cons h (ih j)
theorem Dds.mem {H : Hp} {n : Nat} {xs : List V} {ds : List PyData} (h : Dds H n xs ds) {x : V} (m : x ∈ xs) : ∃ d, Dd H n x d := by
  induction h with
  | nil => cases m
  | cons h t ih =>
    cases m with
    | head => exact ⟨_, h⟩
    | tail _ m => exact ih m
theorem hid_swap {b c p : Addr} {H : Hp} {o : HO} (hc : H c = none) : Same (hid b p H) (hid c p (upd H c o)) := fun a u e => by
  obtain ⟨e1, n1, n2⟩ := hid_get e
  have ac := ne_of_none e1 hc
  exact hid_at (by rw [upd_ne ac]; exact e1) ac n2
theorem ItemsAt.addn {H : Hp} {ks : List (Str × Int)} {x : V} {r : Str × Int} (hx : PairIs H x r) : ∀ (n : Nat) {xs : List V}, ItemsAt H xs ks → ItemsAt H (xs ++ List.replicate n x) (ks ++ List.replicate n r)
  | 0, xs, h => by simpa using h
  | n + 1, xs, h => by
    rw [List.replicate_succ', List.replicate_succ', ← List.append_assoc, ← List.append_assoc]
    exact (ItemsAt.addn hx n h).add hx
theorem flat_rep {α : Type} (x : α) : ∀ n, (List.replicate n [x]).flatten = List.replicate n x
  | 0 => rfl
  | n + 1 => by rw [List.replicate_succ, List.flatten_cons, flat_rep x n, List.replicate_succ]; rfl
theorem Fr.put {b p q c : Addr} {ys : List V} {H0 Hs H : Hp} {o : HO} (f : Fr b p q ys H0 Hs H) (n0 : H0 c = none) (ns : Hs c = none) (cb : c ≠ b) (cp : c ≠ p) (cq : c ≠ q) : Fr b p q ys H0 Hs (upd H c o) :=
  ⟨by rw [upd_ne cb.symm]; exact f.hb, f.bp, f.hp.upd cp cq, keepUpd f.kp n0, fun a u e => by
    obtain ⟨e1, n1, n2⟩ := hid_get (f.sm a u e)
    have ac : a ≠ c := fun h => by rw [h] at e; rw [(hid_get e).1] at ns; cases ns
    exact hid_at (by rw [upd_ne ac]; exact e1) n1 n2, f.b0, f.bq⟩
theorem wo_put {b p c : Addr} {H : Hp} {o : HO} : Same (wo c (hid b p H)) (wo c (hid b p (upd H c o))) := fun a u e => by
  have ac : a ≠ c := fun h => by rw [h] at e; unfold wo at e; rw [if_pos rfl] at e; cases e
  rw [wo_ne ac] at e ⊢
  obtain ⟨e1, n1, n2⟩ := hid_get e
  exact hid_at (by rw [upd_ne ac]; exact e1) n1 n2
theorem nw_hid {H H' : Hp} {b p : Addr} {o o' : HO} (hb : H b = some o) (hp : H p = some o') : Same (nw H H') (hid b p H') := fun a u e => by
  obtain ⟨e0, e1⟩ := nw_get e
  exact hid_at e1 (fun h => by rw [h, hb] at e0; cases e0) fun h => by rw [h, hp] at e0; cases e0
theorem HandAt.at_ {H : Hp} {p q : Addr} (h : HandAt H p q) : ∃ o, H p = some o := by
  obtain ⟨cs, a, b, c, h1, h2⟩ := h
  exact ⟨_, h1⟩
end Kx

set_option maxHeartbeats 4000000
namespace Kx
open PySem L2
def spLDeed : Sp := fun vs H Q _ => ∃ (b : Addr) (ks : List (Str × Int)) (y : V) (r : Option (List V)), vs = [.ref b, y] ∧ GoodL H b ks ∧ GoodK ks ∧ DeedIs H y r ∧ ∀ H', Same H H' → Q (wordV (deedWord ks r)) H'
theorem kNum_step {ks : List (Str × Int)} {i : Nat} {q : Str × Int} (nd : (ks.map (·.1)).Nodup) (e : ks[i]? = some q) (z : Str) : kNum (ks.take (i + 1)) (.str z) = if q.1 = z then some q.2 else kNum (ks.take i) (.str z) := by
  show ((ks.take (i + 1)).find? fun r => decide (r.1 = z)).map (·.2) = _
  rw [take_succ_of e, List.find?_append]
  by_cases h : q.1 = z
  · rw [if_pos h]
    have none : (ks.take i).find? (fun r => decide (r.1 = z)) = none := by
      rw [List.find?_eq_none]
      intro r hr hz
      have hz : r.1 = z := of_decide_eq_true hz
      obtain ⟨j, hj⟩ := List.mem_iff_getElem?.mp hr
      have lt : j < i := by
        have := (List.getElem?_eq_some_iff.mp hj).1
        rw [List.length_take] at this
        omega
      rw [List.getElem?_take_of_lt lt] at hj
      have a : (ks.map (·.1))[j]? = some z := by rw [List.getElem?_map, hj, ← hz]; rfl
      have b : (ks.map (·.1))[i]? = some z := by rw [List.getElem?_map, e, ← h]; rfl
      have := (List.getElem?_inj (by have := (List.getElem?_eq_some_iff.mp a).1; exact this) nd).mp (a.trans b.symm)
      omega
    rw [none, List.find?_cons_of_pos (by simpa using h)]
    rfl
  · rw [if_neg h, List.find?_cons_of_neg (by simpa using h), List.find?_nil, Option.or_none]
    rfl
theorem few_filt {xs : List V} (i : Nat) (h : xs.length ≤ 1000) : ((xs.take i).filter fun z => !labV z).length ≤ 1000 := by
  have h1 := List.length_filter_le (fun z => !labV z) (xs.take i)
  have h2 : (xs.take i).length ≤ xs.length := by
    rw [List.length_take]
    omega
  omega
theorem filt_all (xs : List V) : (xs.filter fun z => !labV z).length = 0 ↔ xs.all labV = true := by
  rw [List.length_eq_zero_iff, List.filter_eq_nil_iff, List.all_eq_true]
  constructor
  · intro h z hz
    have := h z hz
    simpa using this
  · intro h z hz
    simp [h z hz]
section
variable {P : Program} {w : World} {K : PySem.W.Frag} {mg : Str → Option Value} {base : Heap}
abbrev nLDeed : List Str := ["_law_rows", "_law_deed", "_law_many", "_law_row", "_law_person"]
theorem scLDeed : FnScope nLDeed ["_law_rows", "_law_deed"] (defScope sLDeedDue) := ⟨rfl, rfl, rfl, by decide +kernel, rfl, by decide +kernel, by decide +kernel⟩
theorem ok_ldeed {f : Addr} {fd : FuncData} (F : Fun K "_law_deed_due" "_law_deed_due" sLDeedDue f fd) (m : mg "_law_deed_due" = some (.ref f)) (T : Bl mg) (B : Bm mg) (L : HasF P w K mg base "_law_label" 1 ["_law_thing"] spLLab) : HasF P w K mg base "_law_deed_due" 2 ["_law_rows", "_law_deed"] spLDeed := by
  refine ⟨f, fd, ?_, m, F.kp, F.binds fun _ _ _ _ _ _ us hl => match us, hl with | [_, _], _ => rfl⟩
  obtain ⟨f1, fd1, L⟩ := L
  refine F.ok scLDeed (fun vs H Q E h => ?_) (fun cdv A outer s H vs Q E hr h => ?_)
  · obtain ⟨a, b, c, d, rfl, _⟩ := h
    rfl
  · obtain ⟨b, ks, y, r, rfl, hb, gk, hy, k⟩ := h
    refine ⟨_, (C8.pss_cut (ps_if (PW.pt (pw_or (pt_not (pt_val (pe_callB call_isiT (by rfl) B.isinstance (by decide +kernel) (pa_cons (pv 1) (pa_cons (pe_tup (pa_cons (pe_bltn (v := .ty "list") (by rfl) B.list (by decide +kernel) rfl) (pa_cons (pe_bltn (v := .ty "tuple") (by rfl) B.tuple (by decide +kernel) rfl) pa_nil))) pa_nil))))) (pw_or1 (pt_cmpR op_eq (pe_callB call_len_seq (by rfl) T.len PySem.boot_len (pa_cons (pv 1) pa_nil)) pe_int (nomark _))))) (pss_one (ps_ret pe_str)) pss_nil)
    (pss_cons (ps_set (i := 2) scLDeed.nd rfl (Or.inl rfl) (pe_un un_neg pe_int))
    (C8.pss_cut (ps_for PassesOwn.never rfl (pi_list (pv 0)) (pg_name (i := 3) scLDeed.nd rfl (Or.inl rfl))
        (pss_one (ps_if (PW.pt (pw_and (pt_val (pe_callB call_isi (by rfl) B.isinstance (by decide +kernel) (pa_cons (pe_ix ix_seq (pv 1) pe_int (fun _ _ => rfl)) (pa_cons (pe_bltn (v := .ty "str") (by rfl) B.str (by decide +kernel) rfl) pa_nil)))) (pw_and1 (pt_cmpR op_eq (pe_ix ix_seq (pv 3) pe_int (fun _ _ => rfl)) (pe_ix ix_seq (pv 1) pe_int (fun _ _ => rfl)) (nomark _))))) (pss_one (ps_set (i := 2) scLDeed.nd rfl (Or.inl rfl) (pe_ix ix_seq (pv 3) pe_int (fun _ _ => rfl)))) pss_nil)))
    (pss_cons (ps_if (pt_cmpR op_lt (pv 2) pe_int (nomark _)) (pss_one (ps_ret pe_str)) pss_nil)
    (pss_cons (ps_if (pt_cmpR op_ne (pe_callB call_len_seq (by rfl) T.len PySem.boot_len (pa_cons (pv 1) pa_nil)) (pe_op op_add (pv 2) pe_int) (nomark _)) (pss_one (ps_ret pe_str)) pss_nil)
    (pss_cons (ps_if (pt_cmpR (op_neL hr.units) (pe_lc (own := [("_law_person", 4)]) (g := gName 4) (by rfl) scLDeed.nd (pi_or (pi_list (pe_slice sl_list (pv 1) (po_some pe_int) po_none)) (pi_tup (pe_slice sl_tup (pv 1) (po_some pe_int) po_none))) (blkOk_by (own := [("_law_person", 4)]) (N := nLDeed) (sc := defScope sLDeedDue) (by decide +kernel))
          (fun _ _ _ _ _ => pg_name (i := 4) scLDeed.nd rfl (Or.inl rfl)) (fun _ _ _ _ _ => pts_one (pt_not (pt_val (pe_call L.G hr (by rfl) L.m L.kp L.b .nil pass0 (pa_cons (pv 4) pa_nil))))) (fun _ _ _ _ _ => (pv 4))) (pe_lst pa_nil) (nomark _)) (pss_one (ps_ret pe_str)) pss_nil)
    (pss_one (ps_ret pe_non)))))))), ?_⟩
    obtain ⟨xs0, hx0, it0⟩ := hb
    refine ⟨fun σ H1 => ∃ (b' : Addr) (x : V) (xs : List V), y = .ref b' ∧ r = some (x :: xs) ∧ σ = [some (.ref b), some (.ref b'), none, none, none] ∧ Same H H1 ∧ (H1 b' = some (.lst (x :: xs)) ∨ H1 b' = some (.tup (x :: xs))) ∧ (∀ z ∈ x :: xs, ∃ n, Thing H1 z n) ∧ xs.length ≤ 100, ?_, ?_⟩
    · obtain ⟨n, kd', kn⟩ := hy.kd
      refine ⟨_, rfl, by decide, fun t0 ht0 => ?_⟩
      have s1 : Same H (upd H t0 (.tup [.ty "list", .ty "tuple"])) := sameUpd (Same.refl _) ht0
      refine ⟨y, t0, _, _, _, _, rfl, upd_same, .cons (.ty _) (.cons (.ty _) .nil), (kd'.keep s1).ty, kit_seq kd'.kits, _, rfl, ?_⟩
      have hy1 := hy.keep s1
      cases e1 : seqV n with
      | false => exact iteT (by have e := kn e1; subst e; exact k _ s1)
      | true =>
        refine iteF ?_
        cases hy1 with
        | lst h t l =>
          rename_i b' xs
          refine ⟨_, rfl, _, _, rfl, .inl (SqL.of h), rfl, _, rfl, ?_⟩
          cases xs with
          | nil => exact iteT (k _ s1)
          | cons x xs =>
            rw [decide_eq_false (fun e => by have := V.int.inj e; simp at this; omega)]
            refine iteF ⟨b', x, xs, rfl, rfl, rfl, s1, .inl h, t, by simp at l; omega⟩
        | tup h t l =>
          rename_i b' xs
          refine ⟨_, rfl, _, _, rfl, .inr (SqT.of h), rfl, _, rfl, ?_⟩
          cases xs with
          | nil => exact iteT (k _ s1)
          | cons x xs =>
            rw [decide_eq_false (fun e => by have := V.int.inj e; simp at this; omega)]
            refine iteF ⟨b', x, xs, rfl, rfl, rfl, s1, .inr h, t, by simp at l; omega⟩
        | oth h l =>
          rw [← (kd'.keep s1).uniq h, e1] at l
          cases l
    rintro σ H1 ⟨b', x, xs, rfl, rfl, rfl, s1, hb', ht, hl⟩
    obtain ⟨nx, tx⟩ := ht x (.head _)
    have ixd : ∀ {H2 : Hp} {Q' : V → Hp → Prop}, Same H1 H2 → Q' x H2 → rIx K (.ref b') (.int 0) H2 Q' := fun s q => by
      rcases hb' with h | h
      · exact .inl ⟨_, _, _, _, rfl, rfl, SqL.of (s _ _ h), atI0 _ _, q⟩
      · exact .inr (.inl ⟨_, _, _, _, rfl, rfl, SqT.of (s _ _ h), atI0 _ _, q⟩)
    refine ⟨_, rfl, ?_⟩
    -- the kind
    refine ⟨fun σ H2 => ∃ v, σ = [some (.ref b), some (.ref b'), some (.int ((kNum ks x).getD (-1))), v, none] ∧ Same H1 H2, ?_, ?_⟩
    · refine ⟨_, rfl, b, rfl, ⟨_, SqL.of (s1 _ _ hx0)⟩, for_list (K := K) (a := b) (xs := xs0) (fun i σ H2 => ∃ v, σ = [some (.ref b), some (.ref b'), some (.int ((kNum (ks.take i) x).getD (-1))), v, none] ∧ Same H1 H2)
        ⟨none, by cases x <;> rfl, Same.refl _⟩ (fun i σ H2 _ ⟨_, _, s2⟩ => SqL.of (s2 _ _ (s1 _ _ hx0))) ?_ ?_⟩
      · rintro i z σ H2 hi ⟨v, rfl, s2⟩
        have lti : i < ks.length := by have := (List.getElem?_eq_some_iff.mp hi).1; have := it0.1; omega
        have hq : ks[i]? = some ks[i] := List.getElem?_eq_getElem lti
        obtain ⟨t, rfl, hpt⟩ := ((it0.keep s1).keep s2).2 i z _ hi hq
        have ixp : ∀ {j : Int} {v : V} {Q' : V → Hp → Prop}, atI [V.str ks[i].1, V.int ks[i].2] j = some v → Q' v H2 → rIx K (.ref t) (.int j) H2 Q' := fun e q => by
          rcases hpt with h | h
          · exact .inl ⟨_, _, _, _, rfl, rfl, SqL.of h, e, q⟩
          · exact .inr (.inl ⟨_, _, _, _, rfl, rfl, SqT.of h, e, q⟩)
        refine ⟨_, rfl, ixd s2 ⟨x, _, _, _, _, rfl, .ty _, (tx.keep s2).kd.ty, kit_ty (kit_str tx.kd.kits), _, rfl, ?_⟩⟩
        have same : (∀ w, x ≠ .str w) → kNum (ks.take (i + 1)) x = kNum (ks.take i) x := fun h => by
          cases x with
          | str w => exact absurd rfl (h w)
          | _ => rfl
        obtain ⟨kx, fx⟩ := tx
        cases kx with
        | str w =>
          refine iteT ⟨_, rfl, ixp rfl ⟨_, rfl, ixd s2 ⟨rfl, _, rfl, ?_⟩⟩⟩
          rw [kNum_step gk.nd hq w]
          refine ite2 (fun h1 => ?_) (fun h1 => ?_)
          · have e : ks[i].1 = w := V.str.inj (of_decide_eq_true h1)
            rw [if_pos e]
            exact ⟨_, rfl, ixp rfl ⟨_, rfl, s2⟩⟩
          · have e : ¬ ks[i].1 = w := fun e => h1 (decide_eq_true (congrArg V.str e))
            rw [if_neg e]
            exact ⟨_, rfl, s2⟩
        | non => rw [same (fun w e => nomatch e)]; exact iteF ⟨_, rfl, s2⟩
        | bl b0 => rw [same (fun w e => nomatch e)]; exact iteF ⟨_, rfl, s2⟩
        | int b0 => rw [same (fun w e => nomatch e)]; exact iteF ⟨_, rfl, s2⟩
        | lst a0 l0 h0 => rw [same (fun w e => nomatch e)]; exact iteF ⟨_, rfl, s2⟩
        | tup a0 l0 h0 => rw [same (fun w e => nomatch e)]; exact iteF ⟨_, rfl, s2⟩
        | dct a0 l0 h0 => rw [same (fun w e => nomatch e)]; exact iteF ⟨_, rfl, s2⟩
      · rintro σ H2 ⟨v, rfl, s2⟩
        rw [it0.1, List.take_length]
        exact ⟨v, rfl, s2⟩
    rintro σ H2 ⟨v, rfl, s2⟩
    refine ⟨_, rfl, _, _, rfl, rfl, _, rfl, ?_⟩
    cases e1 : kNum ks x with
    | none =>
      refine iteT ?_
      have q := k _ (s1.trans s2)
      rw [show deedWord ks (some (x :: xs)) = some (Str.ofString "kind") by show (match kNum ks x with | none => _ | some k => _) = _; rw [e1]] at q
      exact q
    | some m =>
      have word : deedWord ks (some (x :: xs)) = if ((xs.length : Nat) : Int) = m then (if xs.all labV then none else some (Str.ofString "person")) else some (Str.ofString "arity") := by
        show (match kNum ks x with | none => _ | some k => _) = _
        rw [e1]
      rw [word] at k
      have m0 : 0 ≤ m := by
        cases x with
        | str z =>
          have e1 : (ks.find? fun q => decide (q.1 = z)).map (·.2) = some m := e1
          cases e3 : ks.find? fun q => decide (q.1 = z) with
          | none => rw [e3] at e1; cases e1
          | some q =>
            rw [e3] at e1
            have e4 : q.2 = m := Option.some.inj e1
            rw [← e4]
            exact (gk.each q (List.mem_of_find?_eq_some e3)).2.2.1
        | _ => cases e1
      rw [show decide (((some m).getD (-1) : Int) < 0) = false from decide_eq_false (by show ¬ m < 0; omega)]
      refine iteF ⟨_, rfl, b', x :: xs, rfl, hb'.imp (fun h => SqL.of (s2 _ _ h)) (fun h => SqT.of (s2 _ _ h)), _, rfl, _, _, rfl, rfl, rfl, _, rfl, ?_⟩
      have eqn : (V.int (((x :: xs).length : Nat) : Int) = V.int (m + 1)) ↔ ((xs.length : Nat) : Int) = m := by
        constructor
        · intro e
          have := V.int.inj e
          simp at this
          omega
        · intro e
          simp
          omega
      refine ite2 (fun q1 => ?_) (fun q1 => ?_)
      · have n1 : ¬ ((xs.length : Nat) : Int) = m := fun e => by
          have z : decide (V.int (((x :: xs).length : Nat) : Int) = V.int (((some m).getD (-1) : Int) + 1)) = true := decide_eq_true (eqn.mpr e)
          rw [z] at q1
          cases q1
        have q := k _ (s1.trans s2)
        rw [if_neg n1] at q
        exact q
      have e3 : ((xs.length : Nat) : Int) = m := by
        by_cases e : ((xs.length : Nat) : Int) = m
        · exact e
        · have z : decide (V.int (((x :: xs).length : Nat) : Int) = V.int (((some m).getD (-1) : Int) + 1)) = false := decide_eq_false (fun h => e (eqn.mp h))
          rw [z] at q1
          exact absurd rfl q1
      rw [if_pos e3] at k
      rcases hb' with hb' | hb'
      · refine .inl ⟨_, rfl, _, rfl, b', _, rfl, SqL.of (s2 _ _ hb'), fun q hq => ⟨q, rfl, ⟨_, SqL.of upd_same⟩, fun D hD => lc_list (K := K) (a := q) (xs := cutV (x :: xs) (some 1) none) (fun i H3 => Same (upd H2 q (.lst (cutV (x :: xs) (some 1) none))) H3 ∧ H3 D = some (.lst ((xs.take i).filter fun z => !labV z)))
          ⟨sameUpd (Same.refl _) hD, upd_same⟩ (fun i H3 _ w => SqL.of (w.1 _ _ upd_same)) ?_ ?_⟩⟩
        · rintro i z H3 hi ⟨s3, hDs⟩
          rw [cut1] at hi
          have s4 : Same H1 H3 := (s2.trans (sameUpd (Same.refl _) hq)).trans s3
          obtain ⟨n, tz⟩ := ht z (.tail _ (List.mem_of_getElem? hi))
          refine ⟨rfl, _, rfl, z, n, rfl, (tz.keep s4).kd, tz.fine, fun H4 s5 => ⟨_, rfl, ?_⟩⟩
          have tk : (xs.take (i + 1)).filter (fun z => !labV z) = (xs.take i).filter (fun z => !labV z) ++ (if labV z then [] else [z]) := by
            rw [take_succ_of hi, List.filter_append]
            cases q : labV z <;> simp [q]
          rw [tk]
          cases e5 : labV z with
          | true =>
            refine iteF ⟨s3.trans s5, ?_⟩
            simpa using s5 _ _ hDs
          | false =>
            refine iteT ⟨_, rfl, (xs.take i).filter fun z => !labV z, s5 _ _ hDs, small1000 (few_filt i (by omega)), fun c o ec => ?_, upd_same⟩
            rw [upd_ne (ne_of_none ec hD)]
            exact (s3.trans s5) c o ec
        · rintro H3 ⟨s3, hDs⟩
          rw [cut1, List.take_length] at hDs
          refine ⟨Nat.zero_le _, fun e he => ⟨D, e, _, [], rfl, rfl, SqL.of (by rw [upd_ne (ne_of_none hDs he)]; exact hDs), SqL.of upd_same, ?_⟩⟩
          have s4 : Same H (upd H3 e (.lst [])) := sameUpd ((s1.trans ((s2.trans (sameUpd (Same.refl _) hq)).trans s3))) he
          by_cases all : xs.all labV = true
          · have nil := List.length_eq_zero_iff.mp ((filt_all xs).mpr all)
            refine .inr ⟨nil, (fun z hz => by rw [nil] at hz; cases hz), _, rfl, iteF ?_⟩
            have q := k _ s4
            rw [if_pos all] at q
            exact q
          · refine .inl ⟨fun e => all ((filt_all xs).mp e), _, rfl, iteT ?_⟩
            have q := k _ s4
            rw [if_neg all] at q
            exact q
      · refine .inr ⟨_, rfl, _, rfl, b', _, rfl, SqT.of (s2 _ _ hb'), whole x xs, fun q hq => ⟨q, rfl, ⟨_, SqT.of upd_same⟩, fun D hD => lc_tup (K := K) (a := q) (xs := cutV (x :: xs) (some 1) none) (fun i H3 => Same (upd H2 q (.tup (cutV (x :: xs) (some 1) none))) H3 ∧ H3 D = some (.lst ((xs.take i).filter fun z => !labV z)))
          ⟨sameUpd (Same.refl _) hD, upd_same⟩ (fun i H3 _ w => SqT.of (w.1 _ _ upd_same)) ?_ ?_⟩⟩
        · rintro i z H3 hi ⟨s3, hDs⟩
          rw [cut1] at hi
          have s4 : Same H1 H3 := (s2.trans (sameUpd (Same.refl _) hq)).trans s3
          obtain ⟨n, tz⟩ := ht z (.tail _ (List.mem_of_getElem? hi))
          refine ⟨rfl, _, rfl, z, n, rfl, (tz.keep s4).kd, tz.fine, fun H4 s5 => ⟨_, rfl, ?_⟩⟩
          have tk : (xs.take (i + 1)).filter (fun z => !labV z) = (xs.take i).filter (fun z => !labV z) ++ (if labV z then [] else [z]) := by
            rw [take_succ_of hi, List.filter_append]
            cases q : labV z <;> simp [q]
          rw [tk]
          cases e5 : labV z with
          | true =>
            refine iteF ⟨s3.trans s5, ?_⟩
            simpa using s5 _ _ hDs
          | false =>
            refine iteT ⟨_, rfl, (xs.take i).filter fun z => !labV z, s5 _ _ hDs, small1000 (few_filt i (by omega)), fun c o ec => ?_, upd_same⟩
            rw [upd_ne (ne_of_none ec hD)]
            exact (s3.trans s5) c o ec
        · rintro H3 ⟨s3, hDs⟩
          rw [cut1, List.take_length] at hDs
          refine ⟨Nat.zero_le _, fun e he => ⟨D, e, _, [], rfl, rfl, SqL.of (by rw [upd_ne (ne_of_none hDs he)]; exact hDs), SqL.of upd_same, ?_⟩⟩
          have s4 : Same H (upd H3 e (.lst [])) := sameUpd ((s1.trans ((s2.trans (sameUpd (Same.refl _) hq)).trans s3))) he
          by_cases all : xs.all labV = true
          · have nil := List.length_eq_zero_iff.mp ((filt_all xs).mpr all)
            refine .inr ⟨nil, (fun z hz => by rw [nil] at hz; cases hz), _, rfl, iteF ?_⟩
            have q := k _ s4
            rw [if_pos all] at q
            exact q
          · refine .inl ⟨fun e => all ((filt_all xs).mp e), _, rfl, iteT ?_⟩
            have q := k _ s4
            rw [if_neg all] at q
            exact q
end
end Kx

set_option maxHeartbeats 4000000
namespace Kx
open PySem L2
/-- a label -/
def Lb (z : Str) : Prop := isLab z = true
theorem Lb.fine {z : Str} (h : Lb z) : Fine z := ⟨(lab_ok h).1, Nat.le_trans (lab_ok h).2 (by decide)⟩
def spPersons : Sp := fun vs H Q _ => ∃ p q : Addr, vs = [.ref p] ∧ HandAt H p q ∧ ∀ (b : Addr) (ys : List Str) (H' : Hp), wo p H' b = some (.lst (ys.map V.str)) → ys ≠ [] → ys.length ≤ 6 → (∀ y ∈ ys, Lb y) → HandAt H' p q → Keep H H' p → Q (.ref b) H'
def E0p : Hp := fun _ => none
theorem hid_E0 {b p : Addr} {H : Hp} : Same (hid b p E0p) H := fun c o e => by
  have z := (hid_get e).1
  cases z
theorem cut0 (xs : List V) : cutV xs none (some 0) = [] := by
  unfold cutV
  have e1 : HT.sIx xs.length xs.length (some 0) = 0 := by simp [HT.sIx]
  rw [e1]
  simp
theorem cut_sub {xs : List V} {lo hi : Option Int} {z : V} (h : z ∈ cutV xs lo hi) : z ∈ xs := List.mem_of_mem_drop (List.mem_of_mem_take h)
section
variable {P : Program} {w : World} {K : PySem.W.Frag} {mg : Str → Option Value} {base : Heap}
abbrev nPers : List Str := ["_law_hand_here", "_law_persons_here", "_law_k", "_law_word_here", "_law_person"]
theorem scPers : FnScope nPers ["_law_hand_here"] (defScope sLPersons) := ⟨rfl, rfl, rfl, by decide +kernel, rfl, by decide +kernel, by decide +kernel⟩
theorem ok_persons {f : Addr} {fd : FuncData} (F : Fun K "_law_persons" "_law_persons" sLPersons f fd) (m : mg "_law_persons" = some (.ref f)) (T : Bl mg) (D : HasF P w K mg base "_law_draw" 2 ["_law_hand_here", "_law_many"] spDraw) (W : HasF P w K mg base "_law_word" 3 ["_law_hand_here", "_law_most"] spWord) (O : HasF P w K mg base "_law_one" 3 ["_law_hand_here", "_law_rows"] spOne) : HasF P w K mg base "_law_persons" 4 ["_law_hand_here"] spPersons := by
  refine ⟨f, fd, ?_, m, F.kp, F.binds fun _ _ _ _ _ _ us hl => match us, hl with | [_], _ => rfl⟩
  obtain ⟨f1, fd1, D⟩ := D; obtain ⟨f2, fd2, W⟩ := W; obtain ⟨f3, fd3, O⟩ := O
  refine F.ok scPers (fun vs H Q E h => ?_) (fun cdv A outer s H vs Q E hr h => ?_)
  · obtain ⟨a, b, rfl, _⟩ := h
    rfl
  · obtain ⟨p, q, rfl, hp, k⟩ := h
    have hr2 : Room 2 _ := hr.mono (by decide)
    refine ⟨_, (pss_cons (ps_set (i := 1) scPers.nd rfl (Or.inr rfl) (pe_lst pa_nil))
    (C8.pss_cut (ps_for PassesOwn.never rfl (pi_range1 (by rfl) T.range (pa_cons (pe_op op_add pe_int (pe_call D.G hr2 (by rfl) D.m D.kp D.b .nil pass0 (pa_cons (pv 0) (pa_cons pe_int pa_nil)))) pa_nil)) (pg_name (i := 2) scPers.nd rfl (.inl rfl))
        (pss_cons (ps_set (i := 3) scPers.nd rfl (Or.inl rfl) (pe_call O.G hr (by rfl) O.m O.kp O.b .nil pass0 (pa_cons (pv 0) (pa_cons (pe_lst (pa_cons pe_str (pa_cons pe_str (pa_cons pe_str (pa_cons (pe_call W.G hr (by rfl) W.m W.kp W.b .nil pass0 (pa_cons (pv 0) (pa_cons pe_int pa_nil))) (pa_cons (pe_call W.G hr (by rfl) W.m W.kp W.b .nil pass0 (pa_cons (pv 0) (pa_cons pe_int pa_nil))) pa_nil)))))) pa_nil))))
    (pss_one (ps_expr (pe_bm PySem.F.plainAttrs_list PySem.F.slot_list_append PySem.F.type_list_append mt_append (pv 1) (pa_cons (pv 3) pa_nil))))))
    (pss_one (ps_ret (pe_lc (own := [("_law_k", 2), ("_law_person", 4)]) (g := gTup K 2 (gCons (gName 2) (gCons (gName 4) gNil))) (by rfl) scPers.nd (pi_enumB (by rfl) T.enumerate (pa_cons (pv 1) pa_nil)) (blkOk_by (own := [("_law_k", 2), ("_law_person", 4)]) (N := nPers) (sc := defScope sLPersons) (by decide +kernel))
          (fun _ _ _ _ _ => pg_tup rfl (pgs_cons (pg_name scPers.nd rfl (.inl rfl)) (pgs_cons (pg_name scPers.nd rfl (.inl rfl)) pgs_nil))) (fun _ _ _ _ _ => pts_one (t := tTest (tOp (rIn K true) (tVar 4) (tSl (rSlL K) (tVar 1) tNoPart (tPart (tVar 2))))) (pt_cmpR (X := _) op_notIn_seq (pv 4) (pe_slice sl_list (pv 1) po_none (po_some (pv 2))) (by rfl))) (fun _ _ _ _ _ => (pv 4))))))), ?_⟩
    refine ⟨Nat.zero_le _, fun a ha => ?_⟩
    have nap := hp.ap ha
    have naq := hp.aq ha
    refine ⟨fun σ H2 => ∃ (ys : List Str) (v2 v3 : Option V), σ = [some (.ref p), some (.ref a), v2, v3, none] ∧ 1 ≤ ys.length ∧ ys.length ≤ 6 ∧ (∀ y ∈ ys, Lb y) ∧ Fr a p q (ys.map V.str) H E0p H2, ?_, ?_⟩
    · have fr0 : Fr a p q [] H E0p (upd H a (.lst [])) := ⟨upd_same, nap, hp.upd nap naq, keepUpd Keep.refl ha, hid_E0, ha, naq⟩
      refine ⟨_, rfl, p, q, 5, rfl, fr0.hp, by decide, by decide, fun z H1 z0 z1 hp1 k1 => ?_⟩
      obtain ⟨fr1, _⟩ := fr0.draw k1 hp1
      refine ⟨_, _, rfl, rfl, _, rfl, by omega, by omega, for_range (n := (2 + z).toNat) (fun i σ H2 => ∃ (ys : List Str) (v2 v3 : Option V), σ = [some (.ref p), some (.ref a), v2, v3, none] ∧ ys.length = i ∧ (∀ y ∈ ys, Lb y) ∧ Fr a p q (ys.map V.str) H E0p H2)
        ⟨[], none, none, rfl, rfl, (fun y hy => nomatch hy), fr1⟩ ?_ ?_⟩
      · rintro i σ H2 hi ⟨ys, v2, v3, rfl, yl, fy, fr2⟩
        refine ⟨_, rfl, _, rfl, p, q, 1, rfl, fr2.hp, by decide, by decide, fun u H3 u0 u1 lu hp3 k3 => ?_⟩
        obtain ⟨fr3, _⟩ := fr2.draw k3 hp3
        refine ⟨_, rfl, p, q, 6, rfl, fr3.hp, by decide, by decide, fun w' H4 w0 w1 lw hp4 k4 => ?_⟩
        obtain ⟨fr4, _⟩ := fr3.draw k4 hp4
        refine ⟨(by show 5 ≤ sizeLine; decide), fun r hr' => ?_⟩
        obtain ⟨fr5, at5, _⟩ := fr4.new (o := .lst [V.str "a", V.str "b", V.str "c", V.str u, V.str w']) hr'
        refine ⟨p, q, r, _, rfl, fr5.hp, upd_same, (hid_get at5).2.2, (by show 0 < 5; decide), (by show 5 ≤ 1000; decide), fun x H5 hx hp5 k5 => ?_⟩
        obtain ⟨fr6, _⟩ := fr5.draw k5 hp5
        have u1 : u.length ≤ 1 := u1
        have w1 : w'.length ≤ 6 := w1
        obtain ⟨y, rfl, hy⟩ : ∃ y, x = V.str y ∧ Lb y := by
          simp only [List.mem_cons, List.not_mem_nil, or_false] at hx
          rcases hx with e | e | e | e | e <;> subst e
          · exact ⟨_, rfl, show isLab _ = true by decide +kernel⟩
          · exact ⟨_, rfl, show isLab _ = true by decide +kernel⟩
          · exact ⟨_, rfl, show isLab _ = true by decide +kernel⟩
          · exact ⟨_, rfl, lab_of (by omega) (by omega) lu⟩
          · exact ⟨_, rfl, lab_of (by omega) (by omega) lw⟩
        refine ⟨_, rfl, .inl ⟨rfl, _, SqL.of fr6.hb⟩, _, rfl, a, _, _, rfl, rfl, fr6.hb, small1000 (by rw [List.length_map]; omega), ys ++ [y], _, _, rfl, by simp [yl], (fun t ht => (List.mem_append.mp ht).elim (fy t) fun e => by rw [List.mem_singleton.mp e]; exact hy), ?_⟩
        exact ⟨by rw [upd_same, List.map_append]; rfl, nap, fr6.hp.upd nap naq, keepUpd fr6.kp ha, hid_E0, ha, naq⟩
      · rintro σ H2 ⟨ys, v2, v3, rfl, yl, fy, fr2⟩
        exact ⟨ys, v2, v3, rfl, by omega, by omega, fy, fr2⟩
    rintro σ H2 ⟨ys, v2, v3, rfl, lo, hi6, fy, fr2⟩
    refine ⟨_, rfl, a, ys.map V.str, rfl, .inl ⟨SqL.of fr2.hb, fun D hD => ?_⟩⟩
    have Da : D ≠ a := (ne_of_none fr2.hb hD).symm
    have Dp : D ≠ p := fr2.hp.ap hD
    have Dq : D ≠ q := fr2.hp.aq hD
    have D0 : H D = none := by
      cases e : H D with
      | none => rfl
      | some u => exact absurd hD (by rw [fr2.kp D u e Dp]; exact fun z => nomatch z)
    refine lc_it walk_enum (fun i H3 => ∃ zs : List Str, H3 D = some (.lst (zs.map V.str)) ∧ zs.length ≤ i ∧ (0 < i → zs ≠ []) ∧ (∀ y ∈ zs, Lb y) ∧ Fr a p q (ys.map V.str) H E0p H3)
      ⟨[], upd_same, Nat.zero_le _, (fun h => absurd h (by decide)), (fun y hy => nomatch hy), fr2.put D0 rfl Da Dp Dq⟩ (fun i H3 _ ⟨_, _, _, _, _, f⟩ => SqL.of f.hb) ?_ ?_
    · rintro i v H3 H4 hi ⟨zs, hz, zl, zn, fz, fr3⟩ ⟨t, x, y, rfl, ht, rfl, ex, ey⟩
      cases ex
      have ey : (ys.map V.str)[i]? = some y := ey
      obtain ⟨w', hw, rfl⟩ : ∃ w', ys[i]? = some w' ∧ V.str w' = y := by
        rw [List.getElem?_map] at ey
        cases e : ys[i]? with
        | none => rw [e] at ey; cases ey
        | some w' => rw [e] at ey; exact ⟨w', rfl, Option.some.inj ey⟩
      obtain ⟨fr4, at4, _⟩ := fr3.new (o := .tup [V.int (i : Nat), V.str w']) ht
      have tD : t ≠ D := (ne_of_none hz ht).symm
      refine ⟨t, _, rfl, SqT.of upd_same, rfl, _, _, rfl, _, _, rfl, rfl, rfl, ?_⟩
      refine ⟨_, rfl, _, rfl, _, rfl, _, rfl, a, _, rfl, SqL.of fr4.hb, fun s' hs => ?_⟩
      obtain ⟨fr5, at5, _⟩ := fr4.new (o := .lst (cutV (ys.map V.str) none (some (i : Nat)))) hs
      have hz4 : upd (upd H3 t (.tup [V.int (i : Nat), V.str w'])) s' (.lst (cutV (ys.map V.str) none (some (i : Nat)))) D = some (.lst (zs.map V.str)) := by
        have e4 : upd H3 t (.tup [V.int (i : Nat), V.str w']) D = some (.lst (zs.map V.str)) := by rw [upd_ne tD.symm]; exact hz
        rw [upd_ne (ne_of_none e4 hs)]
        exact e4
      have hy : Lb w' := fy w' (List.mem_of_getElem? hw)
      refine ⟨s', cutV (ys.map V.str) none (some (i : Nat)), rfl, .inl (SqL.of upd_same), rfl, ?_, _, rfl, ?_⟩
      · refine List.all_eq_true.mpr fun z hz => ?_
        obtain ⟨u, _, rfl⟩ := List.mem_map.mp (cut_sub hz)
        rfl
      cases e : inV (V.str w') (cutV (ys.map V.str) none (some (i : Nat))) with
      | false =>
        refine iteT ⟨_, rfl, zs.map V.str, hz4, small1000 (by rw [List.length_map]; have := hi; rw [List.length_map] at this; omega), zs ++ [w'], ?_, by simp; omega, (fun _ => by simp), (fun u hu => (List.mem_append.mp hu).elim (fz u) fun e => by rw [List.mem_singleton.mp e]; exact hy), fr5.put D0 rfl Da Dp Dq⟩
        rw [upd_same, List.map_append]
        rfl
      | true =>
        refine iteF ⟨zs, hz4, by omega, fun _ => ?_, fz, fr5⟩
        by_cases i0 : i = 0
        · subst i0
          rw [show cutV (ys.map V.str) none (some ((0 : Nat) : Int)) = [] from cut0 _] at e
          cases e
        · exact zn (by omega)
    · rintro H3 ⟨zs, hz, zl, zn, fz, fr3⟩
      refine k D zs H3 (wo_at hz Dp) (zn (by rw [List.length_map]; omega)) (by rw [List.length_map] at zl; omega) fz fr3.hp fr3.kp
end
end Kx

set_option maxHeartbeats 4000000
namespace Kx
open PySem L2
/-- what a deed is made of: rows at b, persons at c -/
structure Mat (H : Hp) (p q b c : Addr) (ks : List (Str × Int)) (ys : List Str) : Prop where
  hp : HandAt H p q
  gl : GoodL (wo p H) b ks
  gk : GoodK ks
  hc : wo p H c = some (.lst (ys.map V.str))
  ne : ys ≠ []
  few : ys.length ≤ 6
  fine : ∀ y ∈ ys, Lb y
theorem Mat.keep {H H' : Hp} {p q b c : Addr} {ks : List (Str × Int)} {ys : List Str} (m : Mat H p q b c ks ys) (k : Keep H H' p) (hp : HandAt H' p q) : Mat H' p q b c ks ys :=
  ⟨hp, m.gl.keep (wo_keep k), m.gk, wo_keep k _ _ m.hc, m.ne, m.few, m.fine⟩
theorem wo_get {p b : Addr} {H : Hp} {o : HO} (h : wo p H b = some o) : H b = some o ∧ b ≠ p := ⟨wo_same _ _ h, fun e => by rw [e] at h; unfold wo at h; rw [if_pos rfl] at h; cases h⟩
/-- a deed of one of the kinds by the persons -/
def Made (ks : List (Str × Int)) (ys : List Str) (zs : List Str) : Prop := ∃ r ∈ ks, ∃ ps : List Str, zs = r.1 :: ps ∧ ((ps.length : Nat) : Int) = r.2 ∧ ∀ z ∈ ps, z ∈ ys
theorem Made.all {ks : List (Str × Int)} {ys zs : List Str} (m : Made ks ys zs) (g : GoodK ks) (l : ∀ y ∈ ys, Lb y) : 1 ≤ zs.length ∧ zs.length ≤ 3 ∧ ∀ z ∈ zs, Lb z := by
  obtain ⟨r, hr, ps, rfl, e, hp⟩ := m
  obtain ⟨h1, _, h2, h3⟩ := g.each r hr
  refine ⟨by simp, by simp; omega, fun z hz => ?_⟩
  rcases List.mem_cons.mp hz with e | h
  · rw [e]; exact h1
  · exact l z (hp z h)
theorem Made.due {ks : List (Str × Int)} {ys zs : List Str} (m : Made ks ys zs) (g : GoodK ks) (l : ∀ y ∈ ys, Lb y) : deedWord ks (some (zs.map V.str)) = none := by
  obtain ⟨r, hr, ps, rfl, e, hp⟩ := m
  have num : kNum ks (.str r.1) = some r.2 := by
    show (ks.find? fun q => decide (q.1 = r.1)).map (·.2) = some r.2
    have nd := g.nd
    clear g e hp
    induction ks with
    | nil => cases hr
    | cons k ks ih =>
      rw [List.map_cons, List.nodup_cons] at nd
      rcases List.mem_cons.mp hr with h | h
      · subst h
        rw [List.find?_cons_of_pos (by simp)]
        rfl
      · have ne : ¬ k.1 = r.1 := fun q => nd.1 (by rw [q]; exact List.mem_map.mpr ⟨r, h, rfl⟩)
        rw [List.find?_cons_of_neg (by simpa using ne)]
        exact ih h nd.2
  show (match kNum ks (.str r.1) with | none => some (Str.ofString "kind") | some k => if (((ps.map V.str).length : Nat) : Int) = k then (if (ps.map V.str).all labV then none else some (Str.ofString "person")) else some (Str.ofString "arity")) = none
  rw [num]
  show (if (((ps.map V.str).length : Nat) : Int) = r.2 then (if (ps.map V.str).all labV then none else some (Str.ofString "person")) else some (Str.ofString "arity")) = none
  rw [if_pos (by rw [List.length_map]; exact e), if_pos (List.all_eq_true.mpr fun v hv => by
    obtain ⟨z, hz, rfl⟩ := List.mem_map.mp hv
    exact l z (hp z hz))]
def spMade : Sp := fun vs H Q _ => ∃ (p q b c : Addr) (ks : List (Str × Int)) (ys : List Str), vs = [.ref p, .ref b, .ref c] ∧ Mat H p q b c ks ys ∧ ∀ (a : Addr) (zs : List Str) (H' : Hp), Fr a p q (zs.map V.str) H E0p H' → Made ks ys zs → Q (.ref a) H'
def spOddDeed : Sp := fun vs H Q _ => ∃ (p q b c : Addr) (ks : List (Str × Int)) (ys : List Str), vs = [.ref p, .ref b, .ref c] ∧ Mat H p q b c ks ys ∧ ∀ (x : V) (d : PyData) (H' : Hp), Dd (nw H H') 2 x d → HandAt H' p q → Keep H H' p → Q x H'
section
variable {P : Program} {w : World} {K : PySem.W.Frag} {mg : Str → Option Value} {base : Heap}
theorem scMade : FnScope ["_law_hand_here", "_law_rows", "_law_persons_here", "_law_row", "_law_deed", "_law_k"] ["_law_hand_here", "_law_rows", "_law_persons_here"] (defScope sLMadeDeed) := ⟨rfl, rfl, rfl, by decide +kernel, rfl, by decide +kernel, by decide +kernel⟩
theorem ok_made {f : Addr} {fd : FuncData} (F : Fun K "_law_made_deed" "_law_made_deed" sLMadeDeed f fd) (m : mg "_law_made_deed" = some (.ref f)) (T : Bl mg) (O : HasF P w K mg base "_law_one" 3 ["_law_hand_here", "_law_rows"] spOne) : HasF P w K mg base "_law_made_deed" 4 ["_law_hand_here", "_law_rows", "_law_persons_here"] spMade := by
  refine ⟨f, fd, ?_, m, F.kp, F.binds fun _ _ _ _ _ _ us hl => match us, hl with | [_, _, _], _ => rfl⟩
  obtain ⟨f3, fd3, O⟩ := O
  refine F.ok scMade (fun vs H Q E h => ?_) (fun cdv A outer s H vs Q E hr h => ?_)
  · obtain ⟨a, b, c, d, e, f, rfl, _⟩ := h
    rfl
  · obtain ⟨p, q, b, c, ks, ys, rfl, M, k⟩ := h
    refine ⟨_, (pss_cons (ps_set (i := 3) scMade.nd rfl (Or.inl rfl) (pe_call O.G hr (by rfl) O.m O.kp O.b .nil pass0 (pa_cons (pv 0) (pa_cons (pv 1) pa_nil))))
    (pss_cons (ps_set (i := 4) scMade.nd rfl (Or.inl rfl) (pe_lst (pa_cons (pe_ix ix_seq (pv 3) pe_int (fun _ _ => rfl)) pa_nil)))
    (C8.pss_cut (ps_for PassesOwn.never rfl (pi_range1 (by rfl) T.range (pa_cons (pe_ix ix_seq (pv 3) pe_int (fun _ _ => rfl)) pa_nil)) (pg_name (i := 5) scMade.nd rfl (.inl rfl))
        (pss_one (ps_expr (pe_bm PySem.F.plainAttrs_list PySem.F.slot_list_append PySem.F.type_list_append mt_append (pv 4) (pa_cons (pe_call O.G hr (by rfl) O.m O.kp O.b .nil pass0 (pa_cons (pv 0) (pa_cons (pv 2) pa_nil))) pa_nil)))))
    (pss_one (ps_ret (pv 4)))))), ?_⟩
    obtain ⟨xs, hx, it⟩ := M.gl
    have gk := M.gk
    have lxs := it.1
    refine ⟨_, rfl, _, rfl, p, q, b, xs, rfl, M.hp, (wo_get hx).1, (wo_get hx).2, (by have := gk.lo; omega), (by have := gk.hi; omega), fun x H1 hxm hp1 k1 => ?_⟩
    obtain ⟨i, hi⟩ := List.mem_iff_getElem?.mp hxm
    have lti : i < ks.length := by have := (List.getElem?_eq_some_iff.mp hi).1; omega
    have hq : ks[i]? = some ks[i] := List.getElem?_eq_getElem lti
    have M1 := M.keep k1 hp1
    obtain ⟨t, rfl, ht⟩ := (it.keep (wo_keep k1)).2 i x _ hi hq
    obtain ⟨lab, _, a0, a2⟩ := gk.each _ (List.getElem_mem lti)
    have ixr : ∀ {H2 : Hp} {j : Int} {v : V} {Q' : V → Hp → Prop}, Keep H1 H2 p → atI [V.str ks[i].1, V.int ks[i].2] j = some v → Q' v H2 → rIx K (.ref t) (.int j) H2 Q' := fun kk e q => by
      rcases ht with h | h
      · exact .inl ⟨_, _, _, _, rfl, rfl, SqL.of (kk _ _ (wo_get h).1 (wo_get h).2), e, q⟩
      · exact .inr (.inl ⟨_, _, _, _, rfl, rfl, SqT.of (kk _ _ (wo_get h).1 (wo_get h).2), e, q⟩)
    refine ⟨_, rfl, ixr Keep.refl rfl ⟨(by show 1 ≤ sizeLine; decide), fun a ha => ?_⟩⟩
    have nap := hp1.ap ha
    have naq := hp1.aq ha
    have ha0 : H a = none := by
      cases e : H a with
      | none => rfl
      | some u => exact absurd ha (by rw [k1 a u e nap]; exact fun z => nomatch z)
    have kk : Keep H1 (upd H1 a (.lst [V.str ks[i].1])) p := fun c u e _ => by rw [upd_ne (ne_of_none e ha)]; exact e
    have fr0 : Fr a p q ([ks[i].1].map V.str) H E0p (upd H1 a (.lst [V.str ks[i].1])) := ⟨upd_same, nap, hp1.upd nap naq, keepUpd k1 ha0, hid_E0, ha0, naq⟩
    have M2 := M1.keep kk fr0.hp
    refine ⟨fun σ H2 => ∃ (zs : List Str), σ[4]? = some (some (.ref a)) ∧ Made ks ys zs ∧ Fr a p q (zs.map V.str) H E0p H2, ?_, ?_⟩
    · refine ⟨_, rfl, ixr kk rfl ⟨_, rfl, by omega, by omega, for_range (n := ks[i].2.toNat) (fun j σ H2 => ∃ (zs : List Str) (v : Option V), σ = [some (.ref p), some (.ref b), some (.ref c), some (.ref t), some (.ref a), v] ∧ (∃ ps : List Str, zs = ks[i].1 :: ps ∧ ps.length = j ∧ ∀ z ∈ ps, z ∈ ys) ∧ Fr a p q (zs.map V.str) H E0p H2 ∧ wo p H2 c = some (.lst (ys.map V.str)) ∧ a ≠ c)
        ⟨[ks[i].1], none, rfl, ⟨[], rfl, rfl, fun z hz => nomatch hz⟩, fr0, M2.hc, fun e => by rw [e] at ha; rw [(wo_get M1.hc).1] at ha; cases ha⟩ ?_ ?_⟩⟩
      · rintro j σ H2 hj ⟨zs, v, rfl, ⟨ps, ez, pl, pm⟩, fr2, hc2, ac⟩
        have zl : zs.length = j + 1 := by rw [ez, List.length_cons, pl]
        refine ⟨_, rfl, .inl ⟨rfl, _, SqL.of fr2.hb⟩, _, rfl, _, rfl, p, q, c, _, rfl, fr2.hp, (wo_get hc2).1, (wo_get hc2).2, (by rw [List.length_map]; exact List.length_pos_iff.mpr M.ne), (by rw [List.length_map]; have := M.few; omega), fun x H3 hx3 hp3 k3 => ?_⟩
        obtain ⟨fr3, _⟩ := fr2.draw k3 hp3
        obtain ⟨y, hy, rfl⟩ := List.mem_map.mp hx3
        have hc3 := wo_keep k3 _ _ hc2
        refine ⟨a, _, _, rfl, rfl, fr3.hb, small1000 (by rw [List.length_map]; omega), zs ++ [y], _, rfl, ⟨ps ++ [y], by rw [ez]; rfl, by simp [pl], fun z hz => (List.mem_append.mp hz).elim (pm z) fun e => by rw [List.mem_singleton.mp e]; exact hy⟩, ⟨by rw [upd_same, List.map_append]; rfl, nap, fr3.hp.upd nap naq, keepUpd fr3.kp ha0, hid_E0, ha0, naq⟩, ?_, ac⟩
        exact wo_at (by rw [upd_ne ac.symm]; exact (wo_get hc3).1) (wo_get hc3).2
      · rintro σ H2 ⟨zs, v, rfl, ⟨ps, ez, pl, pm⟩, fr2, _⟩
        exact ⟨zs, rfl, ⟨ks[i], List.getElem_mem lti, ps, ez, by omega, pm⟩, fr2⟩
    rintro σ H2 ⟨zs, e4, md, fr2⟩
    exact ⟨_, e4, k a zs H2 fr2 md⟩
end
end Kx

set_option maxHeartbeats 4000000
namespace Kx
open PySem L2
theorem strs_dds {H : Hp} {n : Nat} : ∀ {zs : List Str}, (∀ z ∈ zs, Fine z) → Dds H n (zs.map V.str) (zs.map PyData.str)
  | [], _ => .nil
  | z :: zs, h => .cons (.str z (h z (.head _))) (strs_dds fun y m => h y (.tail _ m))
theorem strs_dd {H : Hp} {a : Addr} {zs : List Str} (h : H a = some (.lst (zs.map V.str))) (l : zs.length ≤ 10) (f : ∀ z ∈ zs, Fine z) : Dd H 1 (.ref a) (.list (zs.map PyData.str)) := Dd.lstP h (by rw [List.length_map]; exact l) (strs_dds f)
theorem Fr.free {b p q c : Addr} {ys : List V} {H0 Hs H : Hp} (f : Fr b p q ys H0 Hs H) (hc : H c = none) : H0 c = none ∧ c ≠ b ∧ c ≠ p ∧ c ≠ q := by
  have cp := f.hp.ap hc
  refine ⟨?_, (ne_of_none f.hb hc).symm, cp, f.hp.aq hc⟩
  cases e : H0 c with
  | none => rfl
  | some u => exact absurd hc (by rw [f.kp c u e cp]; exact fun z => nomatch z)
/-- what is new since H0, but for the thing at b -/
def hn (b : Addr) (H0 H : Hp) : Hp := wo b (nw H0 H)
theorem hn_nw {b : Addr} {H0 H : Hp} : Same (hn b H0 H) (nw H0 H) := wo_same
theorem hn_get {b c : Addr} {H0 H : Hp} {o : HO} (h : hn b H0 H c = some o) : H c = some o ∧ c ≠ b ∧ H0 c = none := by
  have e := hn_nw c o h
  have cb : c ≠ b := fun e => by unfold hn at h; rw [e] at h; unfold wo at h; rw [if_pos rfl] at h; cases h
  exact ⟨(nw_get e).2, cb, (nw_get e).1⟩
theorem hn_at {b c : Addr} {H0 H : Hp} {o : HO} (h : H c = some o) (n : c ≠ b) (h0 : H0 c = none) : hn b H0 H c = some o := wo_at (nw_at h0 h) n
theorem hn_b {b : Addr} {H0 H : Hp} {o : HO} : Same (hn b H0 H) (hn b H0 (upd H b o)) := fun c u e => by
  obtain ⟨h, n, h0⟩ := hn_get e
  exact hn_at (by rw [upd_ne n]; exact h) n h0
theorem Fr.newN {b p q l : Addr} {ys : List V} {H0 Hs H : Hp} {o : HO} (f : Fr b p q ys H0 Hs H) (hl : H l = none) : Fr b p q ys H0 Hs (upd H l o) ∧ hn b H0 (upd H l o) l = some o ∧ Same (hn b H0 H) (hn b H0 (upd H l o)) := by
  obtain ⟨l0, lb, lp, lq⟩ := f.free hl
  refine ⟨(f.new hl).1, hn_at upd_same lb l0, fun c u e => ?_⟩
  obtain ⟨h, n, h0⟩ := hn_get e
  exact hn_at (by rw [upd_ne (ne_of_none h hl)]; exact h) n h0
theorem Fr.drawN {b p q : Addr} {ys : List V} {H0 Hs H H' : Hp} (f : Fr b p q ys H0 Hs H) (hp0 : ∃ o, H0 p = some o) (k : Keep H H' p) (h : HandAt H' p q) : Fr b p q ys H0 Hs H' ∧ Same (hn b H0 H) (hn b H0 H') := by
  refine ⟨(f.draw k h).1, fun c u e => ?_⟩
  obtain ⟨g, n, h0⟩ := hn_get e
  obtain ⟨o, hp0⟩ := hp0
  exact hn_at (k c u g fun z => by rw [z, hp0] at h0; cases h0) n h0
theorem nw_hn {b p q : Addr} {ys : List V} {H0 Hs H H' : Hp} (f : Fr b p q ys H0 Hs H) : Same (nw H H') (hn b H0 H') := fun c u e => by
  obtain ⟨h, g⟩ := nw_get e
  obtain ⟨c0, cb, _, _⟩ := f.free h
  exact hn_at g cb c0
section
variable {P : Program} {w : World} {K : PySem.W.Frag} {mg : Str → Option Value} {base : Heap}
theorem scOddDeed : FnScope ["_law_hand_here", "_law_rows", "_law_persons_here", "_law_deed", "_law_way", "_law_place"] ["_law_hand_here", "_law_rows", "_law_persons_here"] (defScope sLOddDeed) := ⟨rfl, rfl, rfl, by decide +kernel, rfl, by decide +kernel, by decide +kernel⟩
theorem ok_odddeed {f : Addr} {fd : FuncData} (F : Fun K "_law_odd_deed" "_law_odd_deed" sLOddDeed f fd) (m : mg "_law_odd_deed" = some (.ref f)) (T : Bl mg) (B : Bm mg) (D : HasF P w K mg base "_law_draw" 2 ["_law_hand_here", "_law_many"] spDraw) (O : HasF P w K mg base "_law_one" 3 ["_law_hand_here", "_law_rows"] spOne) (Od : HasF P w K mg base "_law_odd" 4 ["_law_hand_here"] spOdd2)
    (G : HasF P w K mg base "_law_made_deed" 4 ["_law_hand_here", "_law_rows", "_law_persons_here"] spMade) : HasF P w K mg base "_law_odd_deed" 5 ["_law_hand_here", "_law_rows", "_law_persons_here"] spOddDeed := by
  refine ⟨f, fd, ?_, m, F.kp, F.binds fun _ _ _ _ _ _ us hl => match us, hl with | [_, _, _], _ => rfl⟩
  obtain ⟨f1, fd1, D⟩ := D; obtain ⟨f2, fd2, O⟩ := O; obtain ⟨f3, fd3, Od⟩ := Od; obtain ⟨f4, fd4, G⟩ := G
  refine F.ok scOddDeed (fun vs H Q E h => ?_) (fun cdv A outer s H vs Q E hr h => ?_)
  · obtain ⟨a, b, c, d, e, f, rfl, _⟩ := h
    rfl
  · obtain ⟨p, q, b, c, ks, ys, rfl, M, k⟩ := h
    have hr2 : Room 2 _ := hr.mono (by decide)
    have hp0 : ∃ o, H p = some o := M.hp.at_
    have hr3 : Room 3 _ := hr.mono (by decide)
    refine ⟨_, (pss_cons (ps_set (i := 3) scOddDeed.nd rfl (Or.inl rfl) (pe_call G.G hr (by rfl) G.m G.kp G.b .nil pass0 (pa_cons (pv 0) (pa_cons (pv 1) (pa_cons (pv 2) pa_nil)))))
    (pss_cons (ps_set (i := 4) scOddDeed.nd rfl (Or.inl rfl) (pe_call D.G hr2 (by rfl) D.m D.kp D.b .nil pass0 (pa_cons (pv 0) (pa_cons pe_int pa_nil))))
    (pss_cons (ps_if (pt_cmpR op_eq (pv 4) pe_int (nomark _)) (pss_one (ps_ret (pe_call O.G hr3 (by rfl) O.m O.kp O.b .nil pass0 (pa_cons (pv 0) (pa_cons (pe_lst (pa_cons pe_non (pa_cons pe_str (pa_cons (pe_ix ix_list (pv 3) pe_int (fun _ _ => rfl)) (pa_cons pe_int (pa_cons (pe_disp (pps_cons (pe_ix ix_list (pv 3) pe_int (fun _ _ => rfl)) pe_int pps_nil) (by rfl) (by rfl) (fun z => by cases z) (by decide)) (pa_cons (pe_lst pa_nil) pa_nil))))))) pa_nil))))) pss_nil)
    (pss_cons (ps_if (pt_cmpR op_eq (pv 4) pe_int (nomark _)) (pss_one (ps_ret (pe_op op_cat (pe_lst (pa_cons (pe_call Od.G hr (by rfl) Od.m Od.kp Od.b .nil pass0 (pa_cons (pv 0) pa_nil)) pa_nil)) (pe_slice sl_list (pv 3) (po_some pe_int) po_none)))) pss_nil)
    (pss_cons (ps_if (pt_cmpR op_eq (pv 4) pe_int (nomark _)) (pss_one (ps_ret (pe_op op_cat (pv 3) (pe_lst (pa_cons (pe_call O.G hr3 (by rfl) O.m O.kp O.b .nil pass0 (pa_cons (pv 0) (pa_cons (pv 2) pa_nil))) pa_nil))))) pss_nil)
    (pss_cons (ps_if (pt_cmpR op_eq (pv 4) pe_int (nomark _)) (pss_one (ps_ret (pe_slice sl_list (pv 3) po_none (po_some (pe_op op_sub (pe_callB call_len_seq (by rfl) T.len PySem.boot_len (pa_cons (pv 3) pa_nil)) pe_int))))) pss_nil)
    (C8.pss_cut (ps_if (PW.pt (pw_and (pt_cmpR op_eq (pv 4) pe_int (nomark _)) (pw_and1 (pt_cmpR op_gt (pe_callB call_len_seq (by rfl) T.len PySem.boot_len (pa_cons (pv 3) pa_nil)) pe_int (nomark _))))) (pss_cons (ps_set (i := 5) scOddDeed.nd rfl (Or.inl rfl) (pe_op op_add pe_int (pe_call D.G hr2 (by rfl) D.m D.kp D.b .nil pass0 (pa_cons (pv 0) (pa_cons (pe_op op_sub (pe_callB call_len_seq (by rfl) T.len PySem.boot_len (pa_cons (pv 3) pa_nil)) pe_int) pa_nil)))))
    (pss_one (ps_asg (pe_call Od.G hr (by rfl) Od.m Od.kp Od.b .nil pass0 (pa_cons (pv 0) pa_nil)) (pg_sub (pv 3) (pv 5) set_list)))) pss_nil)
    (pss_one (ps_ret (pe_ifExp (pt_cmpR op_lt (pv 4) pe_int (nomark _)) (pv 3) (pe_callTy call_tuple_of (by rfl) B.tuple (by decide +kernel) (pa_cons (pv 3) pa_nil)))))))))))), ?_⟩
    refine ⟨_, rfl, _, rfl, _, rfl, p, q, b, c, ks, ys, rfl, M, fun a zs H1 fr1 md => ?_⟩
    obtain ⟨l1, l3, lz⟩ := md.all M.gk M.fine
    have fz : ∀ z ∈ zs, Fine z := fun z m => (lz z m).fine
    refine ⟨_, rfl, p, q, 9, rfl, fr1.hp, by decide, by decide, fun u H2 u0 u1 hp2 k2 => ?_⟩
    obtain ⟨fr2, s2⟩ := fr1.drawN hp0 k2 hp2
    obtain ⟨z, rest, rfl⟩ : ∃ z rest, zs = z :: rest := by
      cases zs with
      | nil => cases l1
      | cons z rest => exact ⟨z, rest, rfl⟩
    have fz0 := fz z (.head _)
    have fzr : ∀ y ∈ rest, Fine y := fun y m => fz y (.tail _ m)
    have l2 : rest.length ≤ 2 := by simpa using l3
    have M2 := M.keep fr2.kp fr2.hp
    have end_ : ∀ {x : V} {d : PyData} {H' : Hp} {xs : List V}, Fr a p q xs H E0p H' → Dd (nw H H') 2 x d → Q x H' := fun f h => k _ _ _ h f.hp f.kp
    -- 0
    refine ⟨_, rfl, rfl, _, rfl, ?_⟩
    refine ite2 (fun _ => ?_) (fun _ => ?_)
    · refine ⟨_, rfl, _, rfl, a, _, _, _, rfl, rfl, SqL.of fr2.hb, atI0 _ _, fun d hd => ?_⟩
      obtain ⟨fr3, at3, s3⟩ := fr2.newN (o := .dK []) hd
      refine ⟨_, rfl, a, _, _, _, rfl, rfl, SqL.of fr3.hb, atI0 _ _, upd_same, [(Sum.inr z, .int 1)], rfl, (by show 1 ≤ 15; decide), ?_⟩
      rw [upd_upd]
      obtain ⟨fr4, at4, s4⟩ := fr2.newN (o := .dK (mergeK [] [(Sum.inr z, V.int 1)])) hd
      refine ⟨Nat.zero_le _, fun e he => ?_⟩
      obtain ⟨fr5, at5, s5⟩ := fr4.newN (o := .lst []) he
      refine ⟨(by show 6 ≤ sizeLine; decide), fun r hr' => ?_⟩
      obtain ⟨fr6, at6, s6⟩ := fr5.newN (o := .lst [V.non, V.str "", V.str z, V.int 5, V.ref d, V.ref e]) hr'
      refine ⟨p, q, r, _, rfl, fr6.hp, upd_same, (fr5.free hr').2.2.1, (by show 0 < 6; decide), (by show 6 ≤ 1000; decide), fun x H7 hx hp7 k7 => ?_⟩
      obtain ⟨fr7, s7⟩ := fr6.drawN hp0 k7 hp7
      have at4' := s7 _ _ (s6 _ _ (s5 _ _ at4))
      have at5' := s7 _ _ (s6 _ _ at5)
      simp only [List.mem_cons, List.not_mem_nil, or_false] at hx
      rcases hx with e | e | e | e | e | e <;> subst e
      · exact end_ fr7 .non
      · exact end_ fr7 (.str _ ⟨by decide +kernel, by decide +kernel⟩)
      · exact end_ fr7 (.str _ fz0)
      · exact end_ fr7 (.int _ (by decide))
      · exact end_ fr7 (Dd.keep (.dct (n := 1) at4' fz0 (.int 1 (by decide))) hn_nw)
      · exact end_ fr7 (Dd.keep (Dd.lstP (n := 1) at5' (Nat.zero_le _) .nil) hn_nw)
    -- 1
    refine ⟨_, rfl, rfl, _, rfl, ?_⟩
    refine ite2 (fun _ => ?_) (fun _ => ?_)
    · refine ⟨_, rfl, p, q, rfl, fr2.hp, fun x d H3 hx hp3 k3 => ?_⟩
      obtain ⟨fr3, s3⟩ := fr2.drawN hp0 k3 hp3
      obtain ⟨op, hop⟩ := fr2.hp.at_
      have hx3 := hx.keep (nw_hn fr2)
      refine ⟨(by show 1 ≤ sizeLine; decide), fun l hl => ?_⟩
      obtain ⟨fr4, at4, s4⟩ := fr3.newN (o := .lst [x]) hl
      refine ⟨_, rfl, _, rfl, a, _, rfl, SqL.of fr4.hb, fun c' hc' => ?_⟩
      obtain ⟨fr5, at5, s5⟩ := fr4.newN (o := .lst (cutV (List.map V.str (z :: rest)) (some 1) none)) hc'
      refine ⟨l, c', _, _, rfl, rfl, (hn_get (s5 _ _ at4)).1, upd_same, ?_, fun e he => ?_⟩
      · rw [List.map_cons, cut1, List.length_map]
        exact Nat.le_of_lt (small1000 (by show 1 + _ ≤ _; omega))
      · obtain ⟨fr6, at6, s6⟩ := fr5.newN (o := .lst ([x] ++ cutV (List.map V.str (z :: rest)) (some 1) none)) he
        have all : Dds (hn a H (upd (upd (upd H3 l (.lst [x])) c' (.lst (cutV (List.map V.str (z :: rest)) (some 1) none))) e (.lst ([x] ++ cutV (List.map V.str (z :: rest)) (some 1) none)))) 1 ([x] ++ cutV (List.map V.str (z :: rest)) (some 1) none) (d :: rest.map PyData.str) := by
          have e1 : cutV (List.map V.str (z :: rest)) (some 1) none = rest.map V.str := by rw [List.map_cons, cut1]
          have h1 := (hx3.keep ((s4.trans s5).trans s6))
          refine .cons h1 ?_
          show Dds _ 1 (cutV (List.map V.str (z :: rest)) (some 1) none) _
          rw [e1] at *
          exact strs_dds fzr
        exact end_ fr6 (Dd.keep (Dd.lstP at6 (by rw [List.map_cons, cut1]; simp; omega) all) hn_nw)
    -- 2
    refine ⟨_, rfl, rfl, _, rfl, ?_⟩
    refine ite2 (fun _ => ?_) (fun _ => ?_)
    · refine ⟨_, rfl, _, rfl, _, rfl, p, q, c, _, rfl, M2.hp, (wo_get M2.hc).1, (wo_get M2.hc).2, (by rw [List.length_map]; exact List.length_pos_iff.mpr M.ne), (by rw [List.length_map]; have := M.few; omega), fun x H3 hx hp3 k3 => ?_⟩
      obtain ⟨fr3, s3⟩ := fr2.drawN hp0 k3 hp3
      obtain ⟨y, hy, rfl⟩ := List.mem_map.mp hx
      refine ⟨(by show 1 ≤ sizeLine; decide), fun l hl => ?_⟩
      obtain ⟨fr4, at4, s4⟩ := fr3.newN (o := .lst [V.str y]) hl
      refine ⟨a, l, _, _, rfl, rfl, fr4.hb, upd_same, (by simp; exact Nat.le_of_lt (small1000 (by omega))), fun e he => ?_⟩
      obtain ⟨fr5, at5, s5⟩ := fr4.newN (o := .lst (List.map V.str (z :: rest) ++ [V.str y])) he
      have fy : ∀ t ∈ z :: rest ++ [y], Fine t := fun t ht => (List.mem_append.mp ht).elim (fz t) fun e => by rw [List.mem_singleton.mp e]; exact (M.fine y hy).fine
      have e1 : List.map V.str (z :: rest) ++ [V.str y] = List.map V.str (z :: rest ++ [y]) := by simp
      have at6 := at5
      rw [e1] at at6
      exact end_ fr5 (Dd.keep (strs_dd (by rw [e1]; exact at6) (by simp; omega) fy).up hn_nw)
    -- 3
    refine ⟨_, rfl, rfl, _, rfl, ?_⟩
    refine ite2 (fun _ => ?_) (fun _ => ?_)
    · refine ⟨_, rfl, _, rfl, a, _, rfl, .inl (SqL.of fr2.hb), _, _, rfl, rfl, _, rfl, a, _, rfl, SqL.of fr2.hb, fun e he => ?_⟩
      obtain ⟨fr3, at3, s3⟩ := fr2.newN (o := .lst (cutV (List.map V.str (z :: rest)) none (some (((List.map V.str (z :: rest)).length : Nat) - 1)))) he
      obtain ⟨zs', ez, l', f'⟩ : ∃ zs' : List Str, cutV (List.map V.str (z :: rest)) none (some (((List.map V.str (z :: rest)).length : Nat) - 1)) = zs'.map V.str ∧ zs'.length ≤ 3 ∧ ∀ y ∈ zs', Fine y := by
        refine ⟨((z :: rest).drop (HT.sIx (List.map V.str (z :: rest)).length 0 none)).take (HT.sIx (List.map V.str (z :: rest)).length (List.map V.str (z :: rest)).length (some (((List.map V.str (z :: rest)).length : Nat) - 1)) - HT.sIx (List.map V.str (z :: rest)).length 0 none), ?_, ?_, fun y hy => fz y (List.mem_of_mem_drop (List.mem_of_mem_take hy))⟩
        · unfold cutV
          rw [List.map_take, List.map_drop]
        · refine Nat.le_trans ?_ l3
          rw [List.length_take, List.length_drop]
          omega
      have at4 := at3
      rw [ez] at at4
      exact end_ fr3 (Dd.keep (strs_dd (by rw [ez]; exact at4) (by omega) f').up hn_nw)
    -- 4
    refine ⟨fun σ H3 => ∃ (xs : List V) (ds : List PyData) (v5 : Option V), σ = [some (.ref p), some (.ref b), some (.ref c), some (.ref a), some (.int u), v5] ∧ Fr a p q xs H E0p H3 ∧ Dds (hn a H H3) 1 xs ds ∧ xs.length ≤ 3, ?_, ?_⟩
    · have asis : ∃ (xs : List V) (ds : List PyData) (v5 : Option V), ([some (.ref p), some (.ref b), some (.ref c), some (.ref a), some (.int u), none] : L2.St) = [some (.ref p), some (.ref b), some (.ref c), some (.ref a), some (.int u), v5] ∧ Fr a p q xs H E0p H2 ∧ Dds (hn a H H2) 1 xs ds ∧ xs.length ≤ 3 :=
        ⟨_, _, none, rfl, fr2, strs_dds fz, by rw [List.length_map]; exact l3⟩
      refine ⟨_, rfl, rfl, _, rfl, ?_⟩
      refine ite2 (fun _ => ?_) (fun _ => asis)
      refine ⟨_, rfl, a, _, rfl, .inl (SqL.of fr2.hb), _, _, rfl, rfl, _, rfl, ?_⟩
      refine ite2 (fun h1 => ?_) (fun _ => asis)
      have h1 : (1 : Int) < ((List.map V.str (z :: rest)).length : Nat) := of_decide_eq_true h1
      have hl : (List.map V.str (z :: rest)).length = rest.length + 1 := by simp
      refine ⟨_, rfl, _, rfl, a, _, rfl, .inl (SqL.of fr2.hb), _, _, rfl, rfl, p, q, _, rfl, fr2.hp, by omega, by omega, fun v H3 v0 v1 hp3 k3 => ?_⟩
      obtain ⟨fr3, s3⟩ := fr2.drawN hp0 k3 hp3
      refine ⟨_, _, rfl, rfl, ?_⟩
      refine ⟨_, rfl, p, q, rfl, fr3.hp, fun x d H4 hx hp4 k4 => ?_⟩
      obtain ⟨fr4, s4⟩ := fr3.drawN hp0 k4 hp4
      obtain ⟨op, hop⟩ := fr3.hp.at_
      have hx4 := hx.keep (nw_hn fr3)
      refine ⟨_, rfl, _, rfl, a, _, _, (1 + v).toNat, rfl, rfl, fr4.hb, (by unfold ixN; rw [if_pos (by omega), if_pos (by omega)]), _, ((z :: rest).map PyData.str).set (1 + v).toNat d, some (.int (1 + v)), rfl, ⟨upd_same, fr4.bp, fr4.hp.upd fr4.bp fr4.bq, keepUpd fr4.kp fr4.b0, hid_E0, fr4.b0, fr4.bq⟩, (strs_dds fz).set (hx4.keep hn_b) _, by rw [List.length_set, hl]; omega⟩
    rintro σ H3 ⟨xs, ds, v5, rfl, fr3, hds, xl⟩
    have hds2 : Dds (nw H H3) 1 xs ds := hds.keep hn_nw
    refine ⟨_, rfl, _, _, rfl, rfl, _, rfl, ?_⟩
    refine ite2 (fun _ => ?_) (fun _ => ?_)
    · exact ⟨_, rfl, end_ fr3 (Dd.lstP (nw_at fr3.b0 fr3.hb) (by omega) hds2)⟩
    · refine ⟨_, rfl, a, xs, rfl, .inl ⟨SqL.of fr3.hb, fun l hl => ?_⟩⟩
      obtain ⟨fr4, at4, s4⟩ := fr3.newN (o := .tup xs) hl
      exact end_ fr4 (Dd.tupP (hn_nw _ _ at4) (by omega) ((hds.keep s4).keep hn_nw))
end
end Kx

set_option maxHeartbeats 4000000
namespace Kx
open PySem PySem.Spec PyProof.Rows L2
abbrev QT : VK := fun v _ => v = .bl true
abbrev EF : XK := fun _ _ _ => False
/-- the body of the law's def, asked at the call that the row makes (nothing is being shown by repr there) -/
def LawBody (P : Program) (w : World) (K : PySem.W.Frag) (mg : Str → Option Value) (base : Heap) (N : List Str) (x : Str) (st : Stmt) (fa : Addr) (k : Nat) : Prop :=
  ∀ (cdv : Value) (s : Shared) (H : Hp) (a : Addr) (ns : List Int), Room k (callerA.deeper (envOfC x (defScope st) s.heap.objs.size fa cdv)) → SqL K H a (ns.map V.int) → ns.length ≤ 63 →
    ∃ t, PSs (cxOf CX0 P w K mg base N x (defScope st) fa cdv callerA [] s H EF).nox (defBody st) t ∧ t { nx := fun _ H' => QT .non H', rt := QT } (start N [.ref a]) H
section
variable {P : Program} {w : World} {K : PySem.W.Frag} {mg mb : Str → Option Value} {k : Nat} {fa a : Addr} {fd : FuncData} {x y : Str} {st : Stmt} {N : List Str}
theorem law_at {base : Heap} (F : Fun K x x st fa fd) (S : FnScope N [y] (defScope st)) (hr : Room (k + 1) callerA) (B : LawBody P w K mg base N x st fa k) (bind : ∀ (s : Shared) (u : Value), BindsTo s fd ⟨[u], []⟩ [(y, u)])
    {s : Shared} {H : Hp} {ns : List Int} (e0 : Env0 P w K mg base callerA [] s H) (hS : SqL K H a (ns.map V.int)) (hn : ns.length ≤ 63) :
    codeAny (model P w) callerA (.call (.ref fa) ⟨[.ref a], []⟩) (CR CX0 [] P w H s QT EF) s := by
  obtain ⟨oc, od, kV, doc, pm, an, cdv, ct, osl, rfl, lk, hcd⟩ := F.ex
  have KX : K.In s.heap := e0.mod.kin.keeps fun b o e => (e0.bs b o e).1
  have noLim : s.heap.NoLimit := e0.mod.nolimit.keeps fun b o e => (e0.bs b o e).1
  have kinds : ∀ z ∈ [(y, Value.ref a)], (defScope st).names.lookup z.1 = some .local ∨ ((defScope st).names.lookup z.1 = some .cell ∧ ((cellsFrom (s.heap.objs.size + 1) (defScope st).names []).lookup z.1).isSome = true) := fun z hz => by
    obtain rfl : z = (y, Value.ref a) := by simpa using hz
    rcases S.par y (.head _) with q | q
    · exact .inl q
    · exact .inr ⟨q, PySem.W.cellsFrom_some _ _ _ (.inl q)⟩
  refine codeAny_call_function hr.depth (KX _ _ lk) rfl S.co S.gen rfl (PySem.W.codeRec_of KX hcd) (bind s (.ref a) _ _ _ _ (wpAny_newFunctionEnv_cells S.kind kinds fun env he s1 z => ?_))
  subst he
  obtain ⟨t, ht, hq⟩ := B cdv s H a ns (hr.deeper _) hS hn
  refine ⟨noLim.keeps z.toInCall.keep, codeAny_func (wpAny_mono (ht.nox.run [] s1 (start N [.ref a]) H _ (inv_start S hr.hd e0 rfl (.cons rfl .nil) z) hq) (fun fl s' got => ?_) fun e s' got => got)⟩
  cases fl with
  | ret u => obtain ⟨v, σ', H', J, rv, q⟩ := got; exact ⟨v, H', J.os, J.bare, J.base, J.hok, rv, q⟩
  | next => obtain ⟨σ', H', J, q⟩ := got; exact absurd q (fun z => nomatch z)
  | brk => obtain ⟨_, _, _, q⟩ := got; exact q.elim
  | cont => obtain ⟨_, _, _, q⟩ := got; exact q.elim
/-- behind the top nothing is tracked but the script -/
theorem env_at {s : Shared} {H : Hp} {vs : List Value} (KX : K.In s.heap) (main : s.heap.Ns mainGlobals mg) (blt : s.heap.Ns builtinsNs mb) (boot : ∀ x : Str, x ≠ "__name__" → mb x = bootBuiltins x) (lim : s.heap.NoLimit) (gens : s.gens = #[])
    (at_ : s.heap.get? a = some { cls := .type "list", data := .seq vs.toArray }) (ok : HOk P w H s.heap) (only : ∀ b, b ≠ a → H b = none) (mine : H a = none ∨ K.lookup a = none) : Env0 P w K mg (hidT s.heap H) callerA [] s H := by
  have keepK : K.In (hidT s.heap H) := fun b o e => hidT_get (KX b o e) (by
    by_cases z : b = a
    · subst z
      rcases mine with q | q
      · exact q
      · rw [q] at e; cases e
    · exact only b z)
  have keepN : ∀ {b : Addr} {m : Str → Option Value}, s.heap.Ns b m → (hidT s.heap H).Ns b m := by
    rintro b m ⟨o, es, ep, e, d, r⟩
    refine ⟨o, es, ep, hidT_get e (only b fun z => ?_), d, r⟩
    subst z
    rw [at_] at e
    cases e
    cases d
  obtain ⟨mc, l1, l2⟩ := lim
  exact ⟨rfl, ⟨keepK, keepN main, ⟨mb, keepN blt, boot⟩, ⟨mc, keepN l1, l2⟩⟩, fun b o e => of_hidT e, Nat.le_of_eq (hidT_size _ _), trivial, fun b hb => (nomatch hb), ok, .of_eq gens⟩
theorem law_end {s : Shared} {vs : List Value} {ns : List Int} (KX : K.In s.heap) (main : s.heap.Ns mainGlobals mg) (blt : s.heap.Ns builtinsNs mb) (boot : ∀ x : Str, x ≠ "__name__" → mb x = bootBuiltins x) (lim : s.heap.NoLimit) (gens : s.gens = #[])
    (at_ : s.heap.get? a = some { cls := .type "list", data := .seq vs.toArray }) (hints : IntsAre vs ns) (hn : ns.length ≤ 63)
    (run : ∀ (base : Heap) (H : Hp), K.In base → base.Ns mainGlobals mg → Env0 P w K mg base callerA [] s H → SqL K H a (ns.map V.int) → codeAny (model P w) callerA (.call (.ref fa) ⟨[.ref a], []⟩) (CR CX0 [] P w H s QT EF) s) :
    codeAny (model P w) callerA (.call (.ref fa) ⟨[.ref a], []⟩) (fun r s' => r = .ok (.ret (.bool true)) ∧ OldK s.heap s'.heap ∧ s'.os = s.os ∧ AllBare s'.gens) s := by
  have rv := vals_ints hints
  have fits : (ns.map V.int).length ≤ sizeLine := by rw [List.length_map]; exact Nat.le_of_lt (small1000 (by omega))
  have go : ∀ H : Hp, (∀ b, b ≠ a → H b = none) → (H a = none ∧ SqL K H a (ns.map V.int) ∨ K.lookup a = none ∧ H a = some (.frz { cls := .type "list", data := .seq vs.toArray } (.lst (ns.map V.int)))) →
      codeAny (model P w) callerA (.call (.ref fa) ⟨[.ref a], []⟩) (fun r s' => r = .ok (.ret (.bool true)) ∧ OldK s.heap s'.heap ∧ s'.os = s.os ∧ AllBare s'.gens) s := by
    intro H only mine
    have ok : HOk P w H s.heap := fun b u e => by
      by_cases z : b = a
      · subst z
        rcases mine with ⟨q, _⟩ | ⟨_, q⟩
        · rw [q] at e; cases e
        · rw [q] at e
          cases e
          exact ⟨at_, fits, vs, _, rv, at_⟩
      · rw [only b z] at e; cases e
    have e0 := env_at (P := P) (w := w) KX main blt boot lim gens at_ ok only (mine.elim (fun q => .inl q.1) fun q => .inr q.1)
    refine codeAny_mono (run _ H e0.mod.kin e0.mod.glob e0 (mine.elim (fun q => q.2) fun q => .inl (.inr ⟨_, q.2⟩))) fun r s' got => ?_
    rcases r with e | (_ | _ | _ | u)
    · exact got.elim
    · exact got.elim
    · exact got.elim
    · exact got.elim
    · obtain ⟨v, H', os, bare, un, ok', rel, q⟩ := got
      obtain rfl : v = .bl true := q
      obtain rfl : u = Value.bool true := rel
      refine ⟨rfl, OldK.of_keep fun b o e => ?_, os, bare⟩
      cases q : H b with
      | none => exact un.keep b o e q (fun z => (nomatch z)) (fun z => (nomatch z))
      | some u =>
        have z : b = a := Classical.byContradiction fun z => by rw [only b z] at q; cases q
        subst z
        rcases mine with ⟨q2, _⟩ | ⟨_, q2⟩
        · rw [q2] at q; cases q
        · rw [at_] at e
          cases e
          exact (ok' b _ (un.frzs b _ _ q2)).1
  cases hk : K.lookup a with
  | some o =>
    have e := KX a o hk
    rw [at_] at e
    cases e
    exact go (fun _ => none) (fun _ _ => rfl) (.inl ⟨rfl, .inr ⟨_, vs.toArray, _, hk, rfl, rfl, rfl, by rw [List.size_toArray, hints.length]; exact Nat.le_of_lt (small1000 (by omega)), by simpa using rv⟩⟩)
  | none => exact go (fun b => if b = a then some (.frz { cls := .type "list", data := .seq vs.toArray } (.lst (ns.map V.int))) else none) (fun b z => if_neg z) (.inr ⟨hk, if_pos rfl⟩)
end
theorem law_walk {l : PySem.W.OpenLaw} {q : Program} {loose : List Str} {XP : (Str → Option Value) → Heap → Prop} {YP : World → Heap → Prop} {d : DefRec} {K : Params → PySem.W.Frag} (hn : l.most = some 63) (hdf : d.params.defaults = []) (hY : ∀ (w : World) (h : Heap), YP w h → (K w.params).In h)
    (F : ∀ (w : World) (mg : Str → Option Value) (fa : Addr) (h : Heap), (K w.params).In h → h.Ns mainGlobals mg → mg d.name = some (.ref fa) →
      ∀ (base : Heap) (s : Shared) (H : Hp) (a : Addr) (ns : List Int), (K w.params).In base → base.Ns mainGlobals mg → Env0 l.prog w (K w.params) mg base callerA [] s H → SqL (K w.params) H a (ns.map V.int) → ns.length ≤ 63 →
        codeAny (model l.prog w) callerA (.call (.ref fa) ⟨[.ref a], []⟩) (CR CX0 [] l.prog w H s QT EF) s) : PySem.W.WalkO q loose XP YP l.row.toRowW d [] (fun f vs => PySem.call f vs) :=
  Att.attach_call hn hdf fun w s₀ s₁ mg mb fa o pm cd doc a vs ns G Y ho hd hcd hmg hobj hints hlen hg =>
    law_end (hY w _ Y) G.T.g G.T.b G.T.builtins G.T.nolimit hg hobj hints hlen fun base H kin main e0 hS => F w mg fa _ (hY w _ Y) G.T.g hmg base s₁ H a ns kin main e0 hS hlen
end Kx

set_option maxHeartbeats 4000000
namespace Kx
open PySem PySem.Spec PyProof.Rows L2
/-! a list comprehension whose step may be refused -/
theorem note_same {e : Value} {env env' : Env} (h : env.frame = env'.frame) : noteFrame e env = noteFrame e env' := by
  unfold noteFrame PySem.frameOf
  rw [h]
theorem ff_move {B B' h h' : Heap} : ∀ {l : List Env}, h.FunFrames B l → (∀ L ∈ frs l, B'.get? L = none ∧ h'.get? L = h.get? L) → h'.FunFrames B' l
  | [], _, _ => trivial
  | env :: l, x, k => by
    obtain ⟨hk, ⟨L, o, hf, _, ho, hd⟩, hr⟩ := x
    have z := k L (List.mem_filterMap.mpr ⟨env, List.mem_cons_self, hf⟩)
    exact ⟨hk, ⟨L, o, hf, z.1, z.2.trans ho, hd⟩, ff_move hr fun b hb => by
      obtain ⟨e, he, q⟩ := List.mem_filterMap.mp hb
      exact k b (List.mem_filterMap.mpr ⟨e, List.mem_cons_of_mem _ he, q⟩)⟩
/-- a block in whose step something may be raised, wished as E tells -/
abbrev blkX (X : Cx) (s : Shared) (H : Hp) (scope : Scope) (ce : Env) (fp : List Addr) (E : XK) : Cx :=
  { X.blk s H scope ce fp with xe := fun u s' => ∃ pins σ H' s0, Inv (X.blk s H scope ce fp) pins σ H' s0 ∧ L2.CX X.prog X.w X.stack H' s0 E u s' }
theorem okB {X : Cx} {s : Shared} {H : Hp} {scope : Scope} {ce : Env} {fp : List Addr} {E : XK} (ok : (X.blk s H scope ce fp).Ok) : (blkX X s H scope ce fp E).Ok :=
  ⟨ok.mod, ok.kind, ok.glob, ok.blt, ok.above, ok.inj, ok.has, ok.cab, ok.hd, ok.frames, ok.stk, ok.exf, ok.bs, ok.bsz, ok.noex, ok.exfs, ok.funs, ok.frf⟩
theorem okU {X : Cx} {s : Shared} {H : Hp} {scope : Scope} {ce : Env} {fp : List Addr} {E : XK} (ok : (blkX X s H scope ce fp E).Ok) : (X.blk s H scope ce fp).Ok :=
  ⟨ok.mod, ok.kind, ok.glob, ok.blt, ok.above, ok.inj, ok.has, ok.cab, ok.hd, ok.frames, ok.stk, ok.exf, ok.bs, ok.bsz, ok.noex, ok.exfs, ok.funs, ok.frf⟩
theorem invB {X : Cx} {s : Shared} {H : Hp} {scope : Scope} {ce : Env} {fp : List Addr} {E : XK} {pins : List (Addr × Obj)} {σ : L2.St} {H' : Hp} {s' : Shared} (I : Inv (X.blk s H scope ce fp) pins σ H' s') : Inv (blkX X s H scope ce fp E) pins σ H' s' :=
  ⟨okB I.ok, I.os, I.bare, I.base, I.loc, I.cell, I.free, I.freeC, I.pin, I.hok, I.len⟩
theorem invU {X : Cx} {s : Shared} {H : Hp} {scope : Scope} {ce : Env} {fp : List Addr} {E : XK} {pins : List (Addr × Obj)} {σ : L2.St} {H' : Hp} {s' : Shared} (I : Inv (blkX X s H scope ce fp E) pins σ H' s') : Inv (X.blk s H scope ce fp) pins σ H' s' :=
  ⟨okU I.ok, I.os, I.bare, I.base, I.loc, I.cell, I.free, I.freeC, I.pin, I.hok, I.len⟩
theorem passB {X : Cx} {s : Shared} {H : Hp} {scope : Scope} {ce : Env} {fp : List Addr} {E : XK} (σ : L2.St) : PassesAt (L2.CX X.prog X.w) (blkX X s H scope ce fp E) σ E := fun pins H' s0 _ _ I c => ⟨pins, σ, H', s0, invU I, c⟩
theorem sky_fly {B B0 h : Heap} {l : List Env} {a a0 : Addr} {Z Z0 : Obj → Prop} {L : Addr} (ea : (Value.ref a) = .ref a0) (s : Sky B l a Z L h) (f : HandSPX.FlyingZ B0 l a0 Z0 h) : HandSPX.FlyingZ B l a Z h := by
  cases ea
  obtain ⟨_, _, _, oe, vs, T, oT, ts, he, _, hd, h1, _, _, hT, hdT, h3⟩ := f
  rcases s with ⟨_, _, _, oe', vs', he', _, hd', h1'⟩ | f' | ⟨_, _, _, oe', vs', T', oT', ts', he', _, hd', h1', _, _, hT', hdT', h3'⟩
  · rw [he] at he'; cases he'
    rw [hd] at hd'; cases hd'
    rw [h1] at h1'; cases h1'
  · exact f'
  · rw [he] at he'; cases he'
    rw [hd] at hd'; cases hd'
    rw [h1] at h1'; cases h1'
    rw [hT] at hT'; cases hT'
    rw [hdT] at hdT'; cases hdT'
    rw [h3] at h3'; cases h3'
theorem blk_out {X : Cx} {W : WX} {pins : List (Addr × Obj)} {σ : L2.St} {H3 : Hp} {s3 : Shared} {scope : Scope} {ce : Env} {fp : List Addr} {use : Option (Value → Sem Unit)} {Qf : Value → Shared → Prop} {acc u : Value} {s' : Shared}
    (hs : X.stack = X.env :: X.outer) (hf : X.env.frame = some X.env.locals) (tk : Takes X W) (I3 : Inv X pins σ H3 s3) (fr : ce.frame = X.env.frame) (cL : ce.locals = s3.heap.objs.size) (hfp : ∀ b ∈ fp, FpOk X pins H3 b)
    (h : ∃ pins' σ' H' s0, Inv (X.blk s3 H3 scope ce fp) pins' σ' H' s0 ∧ L2.CX X.prog X.w X.stack H' s0 (fun cls d H => W cls d σ H) u s') :
    notedBy (model X.prog X.w) X.A ce (fun e s2 => compEnds (model X.prog X.w) X.A X.xe use Qf acc ce (.error e) s2) u s' := by
  obtain ⟨pins', σ', H', s0, I0, c⟩ := h
  have c0 := c
  obtain ⟨a0, B0, _, _, _, e0, fl0, _⟩ := c0
  obtain ⟨a, B, sI, p2, σ2, H2, cls, d, rfl, J, nb, up, sky, na, os, ag, w⟩ := XE.of_call (X := X.blk s3 H3 scope ce fp) (W := fun cls d _ H => W cls d σ H) I0 (fun _ _ _ h => h) c
  have fl : HandSPX.FlyingZ B X.stack a (Zc cls d) s'.heap := sky_fly e0 sky fl0
  have hfr : X.A.frames = some (X.env :: X.outer) := by rw [I3.ok.frames, hs]
  show wpAny _ _ (noteFrame (.ref a) ce) _ _ _
  rw [note_same fr]
  rw [hs] at fl
  refine HandSPX.looks_onZ Zc.steady hfr hf fl fun h1 held up1 => ?_
  have J1 : Inv (X.blk s3 H3 scope ce fp) p2 σ2 H2 { s' with heap := h1 } := J.landed (s' := { s' with heap := h1 }) nb held.1 (up.trans up1) os ag
  obtain ⟨m, hn, _⟩ := J1.loc
  have hn : h1.Ns ce.locals m := hn
  have hC : H2 ce.locals = none := J.free
  have fC : FpOk X pins H2 ce.locals := I3.fpOk (Nat.le_of_eq cL.symm) hC
  have nfr : ce.locals ∉ frs X.stack := fun hm => by
    rw [hs] at hm
    obtain ⟨e, he, q⟩ := List.mem_filterMap.mp hm
    rcases List.mem_cons.mp he with z | z
    · subst z
      rw [hf] at q
      exact fC.2.1 (Option.some.inj q).symm
    · exact fC.2.2.1 (List.mem_filterMap.mpr ⟨e, z, q⟩)
  obtain ⟨oC, BC⟩ : ∃ o, B.get? ce.locals = some o := by
    obtain ⟨m', hn', _⟩ := J.loc
    obtain ⟨o, _, _, ho, _⟩ := hn'
    exact ⟨o, nb _ _ ho nfr⟩
  have I7 : Inv X pins σ H2 sI := I3.call' (ch := fp) J.os J.base J.hok J.bare fun b hb => ⟨(hfp b hb).2.2.2.1, (hfp b hb).2.1, (hfp b hb).2.2.2.2.1, (hfp b hb).2.2.2.2.2⟩
  obtain ⟨f0, f1, f2, f3, f4, f5⟩ := fC
  have I8 : Inv X pins σ H2 { sI with heap := PySem.W.hideAll sI.heap [ce.locals] } := I7.turned (t' := sI.toks) (fun b o hb e => PySem.W.hideAll_get _ e (by simpa using hb)) f0 f1 f3 f4 f5
  have bB : ∀ b o, (PySem.W.hideAll B [ce.locals]).get? b = some o → B.get? b = some o ∧ b ≠ ce.locals := fun b o e => ⟨PySem.W.of_hideAll _ e, fun z => by
    rw [PySem.W.hideAll_none _ (show b ∈ [ce.locals] by simp [z])] at e
    cases e⟩
  have bN : ∀ b, B.get? b = none → (PySem.W.hideAll B [ce.locals]).get? b = none := fun b e => by
    cases q : (PySem.W.hideAll B [ce.locals]).get? b with
    | none => rfl
    | some o => rw [(bB b o q).1] at e; cases e
  obtain ⟨k1, k2, k3, oe, vs, T, oT, ts, he, hz, hd, h1', hnT, hTe, hT, hdT, h3'⟩ := held
  have aC : a ≠ ce.locals := fun z => by rw [z, BC] at k2; cases k2
  have TC : T ≠ ce.locals := fun z => by rw [z, BC] at hnT; cases hnT
  have goal : CompFails (model X.prog X.w) X.A X.xe ce (.ref a) { s' with heap := h1 } := by
    refine ⟨m, hn, fun h2 m2 hn2 sb => ?_⟩
    have he2 : h2.get? a = some oe := (sb.2 a aC).trans he
    have held2 : HandSPX.HeldZ (PySem.W.hideAll B [ce.locals]) (X.env :: X.outer) a (Zc cls d) X.env.locals h2 := by
      refine ⟨fun b o e => ?_, bN a k2, ff_move k3 fun L hL => ⟨bN L (k3.mem hL).1, sb.2 L fun z => nfr (by rw [hs, ← z]; exact hL)⟩, oe, vs, T, oT, ts, he2, hz, hd, h1', bN T hnT, hTe, (sb.2 T TC).trans hT, hdT, h3'⟩
      obtain ⟨e1, ne⟩ := bB b o e
      exact (sb.2 b ne).trans (k1 b o e1)
    unfold PySem.passOn
    refine wpAny_bind (wpAny_field he2 hd h1' ?_)
    rw [if_neg (show ¬ ((Value.ref T == Value.none) = true) by simp)]
    refine (fun (fly : wpAny (model X.prog X.w) X.A (setFlight (.ref a) ce.frame) (fun _ s4 => wpAny (model X.prog X.w) X.A (throw (.ref a) : Sem Value) (fun _ _ => False) X.xe s4) X.xe { s' with heap := h2 }) => ?_) ?_
    · first
        | exact wpAny_bind fly
        | exact wpAny_bind (wpAny_pure (wpAny_bind fly))
    rw [fr, hf]
    refine HandSPX.setFlight_onZ held2 fun h4 held4 up4 => wpAny_throw ?_
    refine tk _ _ ⟨a, PySem.W.hideAll B [ce.locals], { sI with heap := PySem.W.hideAll sI.heap [ce.locals] }, pins, σ, H2, cls, d, rfl, I8, fun b o e hb => ?_, fun b o e hnf => ?_, .inr (.inr (by rw [hs]; exact held4)), na, os, ag, w⟩
    · have ne : b ≠ ce.locals := fun z => by
        have e : (PySem.W.hideAll sI.heap [ce.locals]).get? b = some o := e
        rw [PySem.W.hideAll_none _ (show b ∈ [ce.locals] by simp [z])] at e
        cases e
      exact PySem.W.hideAll_get _ (nb b o (PySem.W.of_hideAll _ e) hb) (by simpa using ne)
    · have ne : b ≠ ce.locals := fun z => by
        have e : (PySem.W.hideAll sI.heap [ce.locals]).get? b = some o := e
        rw [PySem.W.hideAll_none _ (show b ∈ [ce.locals] by simp [z])] at e
        cases e
      obtain ⟨sl, e1⟩ := (up.trans up1) b o (PySem.W.of_hideAll _ e) hnf
      exact up4 b { o with slots := sl } ((sb.2 b ne).trans e1) hnf
  cases use <;> exact goal

theorem mono2 {α : Type} {m : Sem α} {Q Q' : α → Shared → Prop} {E E' : Value → Shared → Prop} {M : Model} {A : Around} {s : Shared} (h : wpAny M A m Q E s) (hq : ∀ a s, Q a s → Q' a s) (he : ∀ a s, E a s → E' a s) : wpAny M A m Q' E' s := wpAny_mono h hq he
section
variable {X : Cx} {W : WX} {elt tg iter : Expr} {ifs : List Expr} {scope : Scope} {own : List (Str × Nat)} {pos pos' : Pos} {wi : TI} {g : TG} {tt : TT} {te : XK → TE}
/-- as tLc, the step's wish for what it raises being W's -/
def tLcX (W : WX) (wi : TI) (g : TG) (tt : TT) (te : XK → TE) (vs : List Nat) : TE := fun σ H Q => tLc wi g tt (te fun cls d H' => W cls d σ H') vs σ H Q
theorem lc_goes {pins : List (Addr × Obj)} {s : Shared} {σ : L2.St} {H : Hp} {Q : VK} {use : Option (Value → Sem Unit)} {Qf : Value → Shared → Prop} (hs : X.stack = X.env :: X.outer) (hf : X.env.frame = some X.env.locals) (tk : Takes X W)
    (hc : X.calm = true) (hN : X.N.Nodup) (I : Inv X pins σ H s) (hi : PI X tg iter wi) (ok : BlkOk X.N X.env.scope scope own)
    (hg : ∀ (E : XK) (s : Shared) (H : Hp) (C : Addr) (cl : List (Str × Addr)) (fp : List Addr), PG (blkX X s H scope (compEnvC scope cl C X.env) fp E) tg g)
    (ht : ∀ (E : XK) (s : Shared) (H : Hp) (C : Addr) (cl : List (Str × Addr)) (fp : List Addr), PTs (blkX X s H scope (compEnvC scope cl C X.env) fp E) ifs tt)
    (he : ∀ (E : XK) (s : Shared) (H : Hp) (C : Addr) (cl : List (Str × Addr)) (fp : List Addr), PE (blkX X s H scope (compEnvC scope cl C X.env) fp E) elt (te E)) (hfold : ∀ x, foldedSetIterable iter X.env x = pure x)
    (h : tLcX W wi g tt te (own.map (·.2)) σ H Q)
    (hRR : ∀ D (ce : Env) s' m H', Inv X pins σ H' s' → Q (.ref D) H' → s'.heap.Ns ce.locals m → FpOk X pins H' ce.locals → compEnds (model X.prog X.w) X.A X.xe use Qf (.ref D) ce (.ok .next) s') :
    wpAny (model X.prog X.w) X.A (comprehension (.ListComp elt [⟨tg, iter, ifs, 0⟩] scope pos) scope X.env pos' (newList []) false (eval iter X.env) use) Qf X.xe s := by
  have hfree : ∀ y ∈ scope.names, y.2 = .free → ∃ c, X.env.cells.lookup y.1 = some c := fun y hy e => (ok.free y hy e).elim (fun k => I.ok.has _ (.inl k)) fun k => I.ok.has _ (.inr k)
  refine comprehension_at (use := use) rfl hfold (closure_ok hfree) ok.kind (fun y hy e => by rw [ok.uniq y hy, e]) (thn (hi.run pins s σ H _ I h) fun xv s1 hx => thn hx fun itv s2 h2 => ?_)
  obtain ⟨it, fp, tn, J, H2, rfl, I2, T, st2, f2, q⟩ := h2
  refine wpAny_newObj_type (newEnv_comp ?_) (by show 0 ≤ sizeLine; decide)
  obtain ⟨D, hD⟩ : ∃ D, s2.heap.objs.size = D := ⟨_, rfl⟩
  rw [hD]
  obtain ⟨Wv, ⟨m0, w0⟩, turn⟩ := q D (I2.hok.fresh (Nat.le_of_eq hD))
  obtain ⟨s3, hs3⟩ : ∃ s3, ({ s2 with heap := s2.heap.push { cls := .type "list", data := .seq ([] : List Value).toArray } } : Shared) = s3 := ⟨_, rfl⟩
  have h3 : s3.heap = s2.heap.push { cls := .type "list", data := .seq ([] : List Value).toArray } := by rw [← hs3]
  have I3 : Inv X pins σ (upd H2 D (.lst [])) s3 := by
    subst hs3
    exact I2.laid (t' := s2.toks) (fun b o e => Heap.get?_push_of_some _ e) (Nat.le_of_eq hD) ⟨Nat.zero_le _, [], 0, .nil, by rw [← hD]; exact Heap.get?_push_size _ rfl⟩
  have f3 : ∀ b ∈ fp, FpOk X pins (upd H2 D (.lst [])) b ∧ b < s3.heap.objs.size := fun b hb => by
    obtain ⟨o, e, _⟩ := T.obj _ _ st2 b hb
    have hlt : b < s2.heap.objs.size := Heap.lt_size e
    refine ⟨⟨?_, (f2 b hb).2⟩, by rw [h3, Heap.size_push]; exact Nat.lt_succ_of_lt hlt⟩
    rw [upd_ne (by rw [← hD]; exact Nat.ne_of_lt hlt)]
    exact (f2 b hb).1
  have st3 : tn 0 s3.heap := T.keep _ _ _ st2 fun b _ o e => by rw [h3]; exact Heap.get?_push_of_some _ e
  have I4 := invB (E := fun cls d H' => W cls d σ H') (block_start I3 ok hN f3)
  have pg := hg (fun cls d H' => W cls d σ H') s3 (upd H2 D (.lst [])) s3.heap.objs.size (cellsFrom (s3.heap.objs.size + 1) scope.names (cloFrom X.env.cells scope.names [])) fp
  have pt := ht (fun cls d H' => W cls d σ H') s3 (upd H2 D (.lst [])) s3.heap.objs.size (cellsFrom (s3.heap.objs.size + 1) scope.names (cloFrom X.env.cells scope.names [])) fp
  have pe := he (fun cls d H' => W cls d σ H') s3 (upd H2 D (.lst [])) s3.heap.objs.size (cellsFrom (s3.heap.objs.size + 1) scope.names (cloFrom X.env.cells scope.names [])) fp
  rw [show (({ s2 with heap := s2.heap.push { cls := .type "list", data := .seq ([] : List Value).toArray } } : Shared)) = s3 from hs3]
  show codeAny _ _ (.compStart (.ListComp elt [⟨tg, iter, ifs, 0⟩] scope pos) 0 (.ref it) (.ref D) (compEnvC scope (cellsFrom (s3.heap.objs.size + 1) scope.names (cloFrom X.env.cells scope.names [])) s3.heap.objs.size X.env))
    (compEnds (model X.prog X.w) X.A X.xe use Qf (.ref D) (compEnvC scope (cellsFrom (s3.heap.objs.size + 1) scope.names (cloFrom X.env.cells scope.names [])) s3.heap.objs.size X.env)) { s3 with heap := pushCells (s3.heap.push { cls := .type "dict", data := .dict #[] }) scope.names }
  have nfp : ∀ b ∈ fp, (upd H2 D (.lst [])) b = none := fun b hb => (f3 b hb).1.1
  have eL : (compEnvC scope (cellsFrom (s3.heap.objs.size + 1) scope.names (cloFrom X.env.cells scope.names [])) s3.heap.objs.size X.env).locals = s3.heap.objs.size := rfl
  have eF : (compEnvC scope (cellsFrom (s3.heap.objs.size + 1) scope.names (cloFrom X.env.cells scope.names [])) s3.heap.objs.size X.env).frame = X.env.frame := rfl
  generalize compEnvC scope (cellsFrom (s3.heap.objs.size + 1) scope.names (cloFrom X.env.cells scope.names [])) s3.heap.objs.size X.env = ce at I4 pg pt pe eL eF ⊢
  generalize upd H2 D (.lst []) = H3 at I3 I4 pg pt pe w0 nfp f3
  obtain ⟨s4, hs4⟩ : ∃ s4, ({ s3 with heap := pushCells (s3.heap.push { cls := .type "dict", data := .dict #[] }) scope.names } : Shared) = s4 := ⟨_, rfl⟩
  rw [hs4] at I4 ⊢
  have st4 : tn 0 s4.heap := T.keep _ _ _ st3 fun b _ o e => by rw [← hs4]; exact pushCells_keeps _ _ _ _ (Heap.get?_push_of_some _ e)
  have out : ∀ u s', (blkX X s3 H3 scope ce fp fun cls d H' => W cls d σ H').xe u s' → notedBy (model X.prog X.w) X.A ce (fun e s2 => compEnds (model X.prog X.w) X.A X.xe use Qf (.ref D) ce (.error e) s2) u s' := fun u s' z =>
    blk_out hs hf tk I3 eF eL (fun b hb => (f3 b hb).1) z
  have stat : ∀ {σ' : L2.St} {H' : Hp} {s' : Shared}, Inv (blkX X s3 H3 scope ce fp fun cls d H' => W cls d σ H') [] σ' H' s' → (∀ b ∈ fp, H' b = none) → ∀ b ∈ fp, FpOk (blkX X s3 H3 scope ce fp fun cls d H' => W cls d σ H') [] H' b := fun I' hn b hb =>
    ⟨hn b hb, (I'.ok.exf b hb).1, I'.ok.exfs b hb, .inl hb, fun x c e => (I'.ok.exf b hb).2 x c e, fun p hp => nomatch (show p ∈ ([] : List (Addr × Obj)) from hp)⟩
  have loop : codeAny (model X.prog X.w) X.A (.compLoop (.ListComp elt [⟨tg, iter, ifs, 0⟩] scope pos) 0 (.ref it) (.ref D) ce) (compEnds (model X.prog X.w) X.A X.xe use Qf (.ref D) ce) s4 := by
    refine compLoop_any (fun n s' => ∃ i H', Inv (blkX X s3 H3 scope ce fp fun cls d H' => W cls d σ H') [] (wipe σ (own.map (·.2))) H' s' ∧ tn i s'.heap ∧ (∀ b ∈ fp, H' b = none) ∧ Wv i n H') ?_ m0 ⟨0, H3, I4, st4, nfp, w0⟩
    rintro n s5 ⟨i, H5, I5, st5, n5, w5⟩
    rcases turn i n H5 w5 with ⟨stop, qq⟩ | ⟨go, Nx, hNx, step⟩
    · refine thn (T.done (blkX X s3 H3 scope ce fp fun cls d H' => W cls d σ H') rfl rfl rfl hc i [] s5 _ H5 _ I5 (stat I5 n5) st5 stop) fun r s6 ⟨hr, I6⟩ => ?_
      subst hr
      have I7 : Inv X pins σ H5 s6 := I3.call' (ch := fp) I6.os I6.base I6.hok I6.bare fun b hb => ⟨(f3 b hb).1.2.2.2.1, (f3 b hb).1.2.1, (f3 b hb).1.2.2.2.2.1, (f3 b hb).1.2.2.2.2.2⟩
      have nC : H5 ce.locals = none := I6.free
      obtain ⟨m, hn, _⟩ := I6.loc
      exact hRR D ce s6 m H5 I7 qq hn (I3.fpOk (Nat.le_of_eq eL.symm) nC)
    · refine thn (T.item (blkX X s3 H3 scope ce fp fun cls d H' => W cls d σ H') rfl rfl rfl hc i [] s5 _ H5 _ I5 (stat I5 n5) st5 go) fun r s6 ⟨u, hr, h6⟩ => ?_
      subst hr
      refine thn h6 fun _ s7 ⟨x, H7, I7, r7, y7, st7, n7⟩ => ?_
      have I7' := I7.pinned (stat I7 n7) (T.obj _ _ st7)
      refine mono2 (pg.run _ s7 _ H7 x u _ I7' r7 (step x H7 y7)) (fun _ s8 ⟨σ8, H8, I8, hw8, q8⟩ => ?_) out
      refine mono2 (pt.run _ s8 σ8 H8 _ I8 q8) (fun b s9 ⟨H9, I9, q9⟩ => ?_) out
      have fin : ∀ {s' : Shared} {H' : Hp}, Inv (blkX X s3 H3 scope ce fp fun cls d H' => W cls d σ H') ([] ++ pinsAt fp s7.heap) σ8 H' s' → Nx H' → ∃ m, m < n ∧ ∃ i H', Inv (blkX X s3 H3 scope ce fp fun cls d H' => W cls d σ H') [] (wipe σ (own.map (·.2))) H' s' ∧ tn i s'.heap ∧ (∀ b ∈ fp, H' b = none) ∧ Wv i m H' := fun {s' H'} I' nx => by
        obtain ⟨m', hm, w'⟩ := hNx H' nx
        have pin' : ∀ b ∈ fp, ∀ o, s7.heap.get? b = some o → s'.heap.get? b = some o ∧ H' b = none := fun b hb o e => ⟨(I'.pin (b, o) (List.mem_append_right _ (List.mem_append_right _ (mem_pinsAt hb e)))).1, (I'.pin (b, o) (List.mem_append_right _ (List.mem_append_right _ (mem_pinsAt hb e)))).2.1⟩
        refine ⟨m', hm, i + 1, H', (I'.unpinned (pins := [])).weak (by rw [← hw8, wipe_length]) (fun j v e => ?_), T.keep _ _ _ st7 fun b hb o e => (pin' b hb o e).1, fun b hb => ?_, w'⟩
        · rw [← hw8] at e
          exact (wipe_some e).1
        · obtain ⟨o, e, _⟩ := T.obj _ _ st7 b hb
          exact (pin' b hb o e).2
      cases b with
      | false =>
        rw [if_neg Bool.false_ne_true] at q9
        rw [if_neg Bool.false_ne_true]
        exact fin I9 q9
      | true =>
        rw [if_pos rfl] at q9
        rw [if_pos rfl]
        refine mono2 (pe.run _ s9 σ8 H9 _ I9 q9) (fun z s10 ⟨yv, H10, I10, r10, acc', hD10, hz10, nx⟩ => ?_) out
        exact app_ok (X := blkX X s3 H3 scope ce fp fun cls d H' => W cls d σ H') I10 hD10 hz10 r10 fun s11 I11 => fin I11 nx
  exact codeAny_compStart_list loop (T.self X.A 0 _ _ _ st4 loop)
/-- [..] as a value, its step may be refused -/
theorem pe_lcX (hs : X.stack = X.env :: X.outer) (hf : X.env.frame = some X.env.locals) (tk : Takes X W) (hc : X.calm = true) (hN : X.N.Nodup) (hi : PI X tg iter wi) (ok : BlkOk X.N X.env.scope scope own)
    (hg : ∀ (E : XK) (s : Shared) (H : Hp) (C : Addr) (cl : List (Str × Addr)) (fp : List Addr), PG (blkX X s H scope (compEnvC scope cl C X.env) fp E) tg g)
    (ht : ∀ (E : XK) (s : Shared) (H : Hp) (C : Addr) (cl : List (Str × Addr)) (fp : List Addr), PTs (blkX X s H scope (compEnvC scope cl C X.env) fp E) ifs tt)
    (he : ∀ (E : XK) (s : Shared) (H : Hp) (C : Addr) (cl : List (Str × Addr)) (fp : List Addr), PE (blkX X s H scope (compEnvC scope cl C X.env) fp E) elt (te E)) (hfold : ∀ x, foldedSetIterable iter X.env x = pure x := by intro _; rfl) :
    PE X (.ListComp elt [⟨tg, iter, ifs, 0⟩] scope pos) (tLcX W wi g tt te (own.map (·.2))) := by
  refine ⟨fun pins s σ H Q I h => ?_⟩
  rw [eval_ListComp]
  refine lc_goes hs hf tk hc hN I hi ok hg ht he hfold h fun D ce s' m H' I' q hn f => ⟨m, hn, fun h'' sb => ?_⟩
  obtain ⟨f0, f1, f2, f3, f4, f5⟩ := f
  exact ⟨.ref D, H', I'.turned (t' := s'.toks) (fun b o hb e => (sb.2 b hb).trans e) f0 f1 f3 f4 f5, rfl, q⟩
end
end Kx

set_option maxHeartbeats 4000000
namespace Kx
open PySem L2
theorem line2 {n : Nat} (h : n ≤ 2000000) : n < sizeLine := by
  have e : sizeLine = 16777216 := by decide
  omega
theorem pr_get {α β : Type} {F : α → β → Prop} {xs : List α} {ys : List β} (h : Paired F xs ys) : ∀ {i : Nat} {x : α}, xs[i]? = some x → ∃ y, ys[i]? = some y ∧ F x y := by
  induction h with
  | nil => intro i x e; cases e
  | cons h t ih =>
    intro i x e
    cases i with
    | zero => cases e; exact ⟨_, rfl, h⟩
    | succ i => exact ih e
theorem pr_imp {α β : Type} {F G : α → β → Prop} {xs : List α} {ys : List β} (h : Paired F xs ys) (k : ∀ a b, F a b → G a b) : Paired G xs ys := by
  induction h with
  | nil => exact .nil
  | cons h t ih => exact .cons (k _ _ h) ih
theorem pr_take {α β : Type} {F : α → β → Prop} {xs : List α} {ys : List β} (h : Paired F xs ys) : ∀ n, Paired F (xs.take n) (ys.take n) := by
  induction h with
  | nil => intro n; rw [List.take_nil, List.take_nil]; exact .nil
  | cons h t ih =>
    intro n
    cases n with
    | zero => exact .nil
    | succ n => exact .cons h (ih n)
theorem pr_drop {α β : Type} {F : α → β → Prop} {xs : List α} {ys : List β} (h : Paired F xs ys) : ∀ n, Paired F (xs.drop n) (ys.drop n) := by
  induction h with
  | nil => intro n; rw [List.drop_nil, List.drop_nil]; exact .nil
  | cons h t ih =>
    intro n
    cases n with
    | zero => exact .cons h t
    | succ n => exact ih n
theorem pr_app {α β : Type} {F : α → β → Prop} {xs zs : List α} {ys ws : List β} (h : Paired F xs ys) (k : Paired F zs ws) : Paired F (xs ++ zs) (ys ++ ws) := by
  induction h with
  | nil => exact k
  | cons h t ih => exact .cons h ih
theorem pr_rep {α β : Type} {F : α → β → Prop} {x : α} {y : β} (h : F x y) : ∀ n, Paired F (List.replicate n x) (List.replicate n y)
  | 0 => .nil
  | n + 1 => .cons h (pr_rep h n)
/-! years, as they are told -/
/-- a list or a tuple at b -/
inductive IsSeq (K : PySem.W.Frag) (H : Hp) (b : Addr) (xs : List V) : Prop where
  | lst (h : H b = some (.lst xs)) : IsSeq K H b xs
  | tup (h : H b = some (.tup xs)) : IsSeq K H b xs
  | wr {o : Obj} (e : K.lookup b = some o) (c : o.cls = .type "tuple") (h : ∀ H, SqT K H b xs) : IsSeq K H b xs
theorem IsSeq.keep {K : PySem.W.Frag} {H H' : Hp} {b : Addr} {xs : List V} (h : IsSeq K H b xs) (s : Same H H') : IsSeq K H' b xs := by
  cases h with
  | lst h => exact .lst (s _ _ h)
  | tup h => exact .tup (s _ _ h)
  | wr e c h => exact .wr e c h
theorem IsSeq.sq {K : PySem.W.Frag} {H : Hp} {b : Addr} {xs : List V} (h : IsSeq K H b xs) : SqL K H b xs ∨ SqT K H b xs := by
  cases h with
  | lst h => exact .inl (SqL.of h)
  | tup h => exact .inr (SqT.of h)
  | wr e c h => exact .inr (h H)
theorem IsSeq.off {K : PySem.W.Frag} {H : Hp} {b p : Addr} {xs : List V} {C dx : Addr} {fs : List (Str × V)} (h : IsSeq K H b xs) (hp : H p = some (.ins C dx fs)) : IsSeq K (wo p H) b xs := by
  cases h with
  | lst h => exact .lst (wo_at h fun e => by rw [e, hp] at h; cases h)
  | tup h => exact .tup (wo_at h fun e => by rw [e, hp] at h; cases h)
  | wr e c h => exact .wr e c h
theorem IsSeq.ty {K : PySem.W.Frag} {H : Hp} {b : Addr} {xs : List V} (h : IsSeq K H b xs) : ∃ n, n ∈ ["NoneType", "bool", "int", "str", "list", "tuple", "dict"] ∧ seqV n = true ∧ ∀ H', Same H H' → TyX K H' (.ref b) (.type n) := by
  cases h with
  | lst h => exact ⟨"list", by decide, rfl, fun H' s => .base (.lst (s _ _ h))⟩
  | tup h => exact ⟨"tuple", by decide, rfl, fun H' s => .base (.tup (s _ _ h))⟩
  | wr e c h => exact ⟨"tuple", by decide, rfl, fun H' s => .kTuple e c⟩
theorem Kd.off {H : Hp} {x : V} {n : String} {p C dx : Addr} {fs : List (Str × V)} (h : Kd H x n) (hp : H p = some (.ins C dx fs)) : Kd (wo p H) x n := by
  cases h with
  | non => exact .non
  | bl b => exact .bl b
  | int i => exact .int i
  | str z => exact .str z
  | lst a xs h => exact .lst a xs (wo_at h fun e => by rw [e, hp] at h; cases h)
  | tup a xs h => exact .tup a xs (wo_at h fun e => by rw [e, hp] at h; cases h)
  | dct a xs h => exact .dct a xs (wo_at h fun e => by rw [e, hp] at h; cases h)
theorem Thing.off {H : Hp} {x : V} {n : String} {p C dx : Addr} {fs : List (Str × V)} (h : Thing H x n) (hp : H p = some (.ins C dx fs)) : Thing (wo p H) x n := ⟨h.kd.off hp, h.fine⟩
theorem DeedIs.off {H : Hp} {y : V} {r : Option (List V)} {p C dx : Addr} {fs : List (Str × V)} (h : DeedIs H y r) (hp : H p = some (.ins C dx fs)) : DeedIs (wo p H) y r := by
  cases h with
  | lst h t l => exact .lst (wo_at h fun e => by rw [e, hp] at h; cases h) (fun x m => (t x m).imp fun n q => q.off hp) l
  | tup h t l => exact .tup (wo_at h fun e => by rw [e, hp] at h; cases h) (fun x m => (t x m).imp fun n q => q.off hp) l
  | oth h l => exact .oth (h.off hp) l
/-- a year, as it is told: its deeds -/
inductive YearIs (K : PySem.W.Frag) (H : Hp) : V → Option (List (Option (List V))) → Prop where
  | seq {b : Addr} {xs : List V} {rs : List (Option (List V))} (h : IsSeq K H b xs) (a : Paired (DeedIs H) xs rs) (l : xs.length ≤ 1000001) : YearIs K H (.ref b) (some rs)
  | oth {y : V} {n : String} (h : Kd H y n) (l : seqV n = false) : YearIs K H y none
theorem YearIs.keep {K : PySem.W.Frag} {H H' : Hp} {y : V} {r : Option (List (Option (List V)))} (h : YearIs K H y r) (s : Same H H') : YearIs K H' y r := by
  cases h with
  | seq h a l => exact .seq (h.keep s) (pr_imp a fun _ _ q => q.keep s) l
  | oth h l => exact .oth (h.keep s) l
theorem YearIs.off {K : PySem.W.Frag} {H : Hp} {y : V} {r : Option (List (Option (List V)))} {p C dx : Addr} {fs : List (Str × V)} (h : YearIs K H y r) (hp : H p = some (.ins C dx fs)) : YearIs K (wo p H) y r := by
  cases h with
  | seq h a l => exact .seq (h.off hp) (pr_imp a fun _ _ q => q.off hp) l
  | oth h l => exact .oth (h.off hp) l
/-- years, as they are told -/
inductive YearsIs (K : PySem.W.Frag) (H : Hp) : V → Option (List (Option (List (Option (List V))))) → Prop where
  | seq {b : Addr} {xs : List V} {rs : List (Option (List (Option (List V))))} (h : IsSeq K H b xs) (a : Paired (YearIs K H) xs rs) (l : xs.length ≤ 1000003) : YearsIs K H (.ref b) (some rs)
  | oth {y : V} {n : String} (h : Kd H y n) (l : seqV n = false) : YearsIs K H y none
theorem YearsIs.keep {K : PySem.W.Frag} {H H' : Hp} {y : V} {r : Option (List (Option (List (Option (List V)))))} (h : YearsIs K H y r) (s : Same H H') : YearsIs K H' y r := by
  cases h with
  | seq h a l => exact .seq (h.keep s) (pr_imp a fun _ _ q => q.keep s) l
  | oth h l => exact .oth (h.keep s) l
theorem YearsIs.off {K : PySem.W.Frag} {H : Hp} {y : V} {r : Option (List (Option (List (Option (List V)))))} {p C dx : Addr} {fs : List (Str × V)} (h : YearsIs K H y r) (hp : H p = some (.ins C dx fs)) : YearsIs K (wo p H) y r := by
  cases h with
  | seq h a l => exact .seq (h.off hp) (pr_imp a fun _ _ q => q.off hp) l
  | oth h l => exact .oth (h.off hp) l
/-- whether it is a list or a tuple: what is_sequence wants to know -/
def SeqQ (K : PySem.W.Frag) (H : Hp) (y : V) (b : Bool) : Prop := ∃ n, n ∈ ["NoneType", "bool", "int", "str", "list", "tuple", "dict"] ∧ seqV n = b ∧ ∀ H', Same H H' → TyX K H' y (.type n)
theorem SeqQ.keep {K : PySem.W.Frag} {H H' : Hp} {y : V} {b : Bool} (h : SeqQ K H y b) (s : Same H H') : SeqQ K H' y b := by
  obtain ⟨n, a, e, t⟩ := h
  exact ⟨n, a, e, fun H2 s2 => t H2 (s.trans s2)⟩
theorem YearIs.sq {K : PySem.W.Frag} {H : Hp} {y : V} {r : Option (List (Option (List V)))} (h : YearIs K H y r) : SeqQ K H y r.isSome := by
  cases h with
  | seq h a l =>
    obtain ⟨n, a, b, c⟩ := h.ty
    exact ⟨n, a, b, c⟩
  | oth h l => exact ⟨_, h.kits, l, fun H' s => (h.keep s).ty⟩
theorem YearsIs.sq {K : PySem.W.Frag} {H : Hp} {y : V} {r : Option (List (Option (List (Option (List V)))))} (h : YearsIs K H y r) : SeqQ K H y r.isSome := by
  cases h with
  | seq h a l =>
    obtain ⟨n, a, b, c⟩ := h.ty
    exact ⟨n, a, b, c⟩
  | oth h l => exact ⟨_, h.kits, l, fun H' s => (h.keep s).ty⟩
/-- the first wrong deed -/
def scanD (ks : List (Str × Int)) : Nat → List (Option (List V)) → Option (Nat × Str)
  | _, [] => none
  | j, r :: rs => match deedWord ks r with
    | some w => some (j, w)
    | none => scanD ks (j + 1) rs
def yearWord (ks : List (Str × Int)) : Option (List (Option (List V))) → Option (Nat × Str)
  | none => some (0, "year")
  | some rs => scanD ks 0 rs
def scanY (ks : List (Str × Int)) : Nat → List (Option (List (Option (List V)))) → Option (Nat × Nat × Str)
  | _, [] => none
  | i, r :: rs => match yearWord ks r with
    | some (j, w) => some (i, j, w)
    | none => scanY ks (i + 1) rs
def lenY : Option (List (Option (List V))) → Nat
  | none => 0
  | some l => l.length
def countD (rs : List (Option (List (Option (List V))))) : Nat := (rs.map lenY).sum
def tooMany (rs : List (Option (List (Option (List V))))) : Bool := decide (1000000 < rs.length) || decide (1000000 < countD rs)
def yearsDue (ks : List (Str × Int)) : Option (List (Option (List (Option (List V))))) → Option (Nat × Nat × Str)
  | none => some (0, 0, "years")
  | some rs => if tooMany rs = true then some (0, 0, "many") else scanY ks 0 rs
theorem scanD_step {ks : List (Str × Int)} {rs : List (Option (List V))} {j : Nat} {r : Option (List V)} (h : rs[j]? = some r) (n : Nat) : scanD ks n (rs.drop j) = match deedWord ks r with | some w => some (n, w) | none => scanD ks (n + 1) (rs.drop (j + 1)) := by
  obtain ⟨lt, e⟩ := List.getElem?_eq_some_iff.mp h
  rw [List.drop_eq_getElem_cons lt, e]
  rfl
theorem scanY_step {ks : List (Str × Int)} {rs : List (Option (List (Option (List V))))} {j : Nat} {r : Option (List (Option (List V)))} (h : rs[j]? = some r) (n : Nat) : scanY ks n (rs.drop j) = match yearWord ks r with | some (i, w) => some (n, i, w) | none => scanY ks (n + 1) (rs.drop (j + 1)) := by
  obtain ⟨lt, e⟩ := List.getElem?_eq_some_iff.mp h
  rw [List.drop_eq_getElem_cons lt, e]
  rfl
theorem deedWord_none {ks : List (Str × Int)} {r : Option (List V)} (h : deedWord ks r = none) : ∃ zs : List Str, r = some (zs.map V.str) := by
  cases r with
  | none => cases h
  | some l =>
    cases l with
    | nil => cases h
    | cons x xs =>
      have h : (match kNum ks x with | none => some (Str.ofString "kind") | some k => if ((xs.length : Nat) : Int) = k then (if xs.all labV then none else some (Str.ofString "person")) else some (Str.ofString "arity")) = none := h
      cases e : kNum ks x with
      | none => rw [e] at h; cases h
      | some k =>
        rw [e] at h
        have h : (if ((xs.length : Nat) : Int) = k then (if xs.all labV then none else some (Str.ofString "person")) else some (Str.ofString "arity")) = none := h
        by_cases h1 : ((xs.length : Nat) : Int) = k
        · rw [if_pos h1] at h
          by_cases h2 : xs.all labV = true
          · obtain ⟨z, rfl⟩ : ∃ z, x = .str z := by
              cases x with
              | str z => exact ⟨z, rfl⟩
              | _ => cases e
            have all : ∀ ys : List V, ys.all labV = true → ∃ zs : List Str, ys = zs.map V.str := by
              intro ys
              induction ys with
              | nil => intro _; exact ⟨[], rfl⟩
              | cons y ys ih =>
                intro q
                rw [List.all_cons, Bool.and_eq_true] at q
                obtain ⟨z, rfl, _⟩ := lab_str q.1
                obtain ⟨zs, rfl⟩ := ih q.2
                exact ⟨z :: zs, rfl⟩
            obtain ⟨zs, rfl⟩ := all xs h2
            exact ⟨z :: zs, rfl⟩
          · rw [if_neg h2] at h; cases h
        · rw [if_neg h1] at h; cases h
/-- deeds as things told -/
def dR (ds : List (List Str)) : List (Option (List V)) := ds.map fun d => some (d.map V.str)
def yR (ys : List (List (List Str))) : List (Option (List (Option (List V)))) := ys.map fun y => some (dR y)
theorem scanD_none {ks : List (Str × Int)} : ∀ {rs : List (Option (List V))} {j : Nat}, scanD ks j rs = none → ∃ ds, rs = dR ds
  | [], _, _ => ⟨[], rfl⟩
  | r :: rs, j, h => by
    have h : (match deedWord ks r with | some w => some (j, w) | none => scanD ks (j + 1) rs) = none := h
    cases e : deedWord ks r with
    | some w => rw [e] at h; cases h
    | none =>
      rw [e] at h
      have h5 : scanD ks (j + 1) rs = none := h
      obtain ⟨zs, rfl⟩ := deedWord_none e
      obtain ⟨ds, rfl⟩ := scanD_none h5
      exact ⟨zs :: ds, rfl⟩
theorem yearWord_none {ks : List (Str × Int)} {r : Option (List (Option (List V)))} (h : yearWord ks r = none) : ∃ ds, r = some (dR ds) := by
  cases r with
  | none => cases h
  | some rs =>
    obtain ⟨ds, rfl⟩ := scanD_none (rs := rs) h
    exact ⟨ds, rfl⟩
theorem scanY_none {ks : List (Str × Int)} : ∀ {rs : List (Option (List (Option (List V))))} {j : Nat}, scanY ks j rs = none → ∃ ys, rs = yR ys
  | [], _, _ => ⟨[], rfl⟩
  | r :: rs, j, h => by
    have h : (match yearWord ks r with | some (i, w) => some (j, i, w) | none => scanY ks (j + 1) rs) = none := h
    cases e : yearWord ks r with
    | some w => rw [e] at h; obtain ⟨i, w⟩ := w; cases h
    | none =>
      rw [e] at h
      have h5 : scanY ks (j + 1) rs = none := h
      obtain ⟨ds, rfl⟩ := yearWord_none e
      obtain ⟨ys, rfl⟩ := scanY_none h5
      exact ⟨ds :: ys, rfl⟩
/-! what stands: texts, deeds, years, in lists or in tuples -/
def Ss (mk : List V → HO) (H : Hp) (x : V) (zs : List Str) : Prop := ∃ a, x = .ref a ∧ H a = some (mk (zs.map V.str))
def Ds (mk : List V → HO) (H : Hp) (x : V) (ds : List (List Str)) : Prop := ∃ a xs, x = .ref a ∧ H a = some (mk xs) ∧ Paired (Ss mk H) xs ds
def Ys (mk : List V → HO) (H : Hp) (x : V) (ys : List (List (List Str))) : Prop := ∃ a xs, x = .ref a ∧ H a = some (mk xs) ∧ Paired (Ds mk H) xs ys
theorem Ss.keep {mk : List V → HO} {H H' : Hp} {x : V} {zs : List Str} (h : Ss mk H x zs) (s : Same H H') : Ss mk H' x zs := by
  obtain ⟨a, e, h⟩ := h
  exact ⟨a, e, s _ _ h⟩
theorem Ds.keep {mk : List V → HO} {H H' : Hp} {x : V} {ds : List (List Str)} (h : Ds mk H x ds) (s : Same H H') : Ds mk H' x ds := by
  obtain ⟨a, xs, e, h, p⟩ := h
  exact ⟨a, xs, e, s _ _ h, pr_imp p fun _ _ q => q.keep s⟩
theorem Ys.keep {mk : List V → HO} {H H' : Hp} {x : V} {ys : List (List (List Str))} (h : Ys mk H x ys) (s : Same H H') : Ys mk H' x ys := by
  obtain ⟨a, xs, e, h, p⟩ := h
  exact ⟨a, xs, e, s _ _ h, pr_imp p fun _ _ q => q.keep s⟩
def hFs (k y : Addr) : List (Str × V) := putF "years" (.ref y) (putF "kinds" (.ref k) [])
theorem s_ky : ¬ (Str.ofString "kinds") = Str.ofString "years" := by decide +kernel
theorem hFs_k (k y : Addr) : (hFs k y).lookup ("kinds" : Str) = some (.ref k) := by
  unfold hFs
  rw [lookup_putF, if_neg s_ky, lookup_putF, if_pos rfl]
theorem hFs_y (k y : Addr) : (hFs k y).lookup ("years" : Str) = some (.ref y) := by
  unfold hFs
  rw [lookup_putF, if_pos rfl]
theorem hFs_no (k y : Addr) {m : Str} (h1 : ¬ m = Str.ofString "kinds") (h2 : ¬ m = Str.ofString "years") : (hFs k y).lookup m = none := by
  unfold hFs
  rw [lookup_putF, if_neg h2, lookup_putF, if_neg h1]
  rfl
/-- a History stands at p -/
structure HistAt (C CK : Addr) (H : Hp) (p : Addr) (ks : List (Str × Int)) (ys : List (List (List Str))) : Prop where
  ex : ∃ (dx kp yt : Addr), H p = some (.ins C dx (hFs kp yt)) ∧ KindsAt CK H kp (vv ks) ∧ Ys .tup H (.ref yt) ys
theorem HistAt.ob {C CK : Addr} {H : Hp} {p : Addr} {ks : List (Str × Int)} {ys : List (List (List Str))} (h : HistAt C CK H p ks ys) : ∃ (dx : Addr) (fs : List (Str × V)) (kp yt : Addr), H p = some (.ins C dx fs) ∧ fs.lookup ("kinds" : Str) = some (.ref kp) ∧ fs.lookup ("years" : Str) = some (.ref yt) ∧
    (∀ m : Str, ¬ m = Str.ofString "kinds" → ¬ m = Str.ofString "years" → fs.lookup m = none) ∧ KindsAt CK H kp (vv ks) ∧ Ys .tup H (.ref yt) ys := by
  obtain ⟨dx, kp, yt, h1, h2, h3⟩ := h.ex
  exact ⟨dx, _, kp, yt, h1, hFs_k kp yt, hFs_y kp yt, fun m a b => hFs_no kp yt a b, h2, h3⟩
theorem HistAt.keep {C CK : Addr} {H H' : Hp} {p : Addr} {ks : List (Str × Int)} {ys : List (List (List Str))} (h : HistAt C CK H p ks ys) (s : Same H H') : HistAt C CK H' p ks ys := by
  obtain ⟨dx, kp, yt, h1, h2, h3⟩ := h.ex
  exact ⟨dx, kp, yt, s _ _ h1, h2.keep s, h3.keep s⟩
theorem KindsAt.off {C : Addr} {H : Hp} {p k : Addr} {ps : List (Str × V)} {D dx : Addr} {fs : List (Str × V)} (h : KindsAt C H k ps) (hp : H p = some (.ins D dx fs)) (ne : k ≠ p) : KindsAt C (wo p H) k ps := by
  obtain ⟨dx, fs, r, n, d, ts, h1, h2, h3, h4, h5, h6, h7, h8, h9, h10⟩ := h.ob
  have o : ∀ {b : Addr} {u : HO}, H b = some u → (∀ C dx fs, u ≠ .ins C dx fs) → wo p H b = some u := fun e n => wo_at e fun z => by
    rw [z, hp] at e
    exact n _ _ _ (Option.some.inj e).symm
  exact ⟨dx, fs, r, n, d, ts, wo_at h1 ne, h2, h3, h4, h5, o h6 (fun _ _ _ z => nomatch z), h7, (fun i t q e1 e2 => o (h8 i t q e1 e2) (fun _ _ _ z => nomatch z)), o h9 (fun _ _ _ z => nomatch z), o h10 (fun _ _ _ z => nomatch z)⟩
end Kx

set_option maxHeartbeats 4000000
namespace Kx
open PySem PySem.Spec PyProof.Rows L2
/-- what walks a list or a tuple -/
def iSeq (K : PySem.W.Frag) (tl : TE) : TI := fun σ H R => tl σ H fun x H1 => ∃ a, x = .ref a ∧ (((∃ xs, SqL K H1 a xs) ∧ R (Itl K a) H1) ∨ ((∃ xs, SqT K H1 a xs) ∧ R (Itt K a) H1))
theorem pi_seq {X : Cx} {tg l : Expr} {tl : TE} (hl : PE X l tl) : PI X tg l (iSeq X.K tl) := by
  refine ⟨fun pins s σ H R I h => ?_⟩
  refine thn (hl.run pins s σ H _ I h) fun v s1 ⟨x, H1, I1, r1, q1⟩ => ?_
  obtain ⟨a, e, q⟩ := q1
  subst e
  cases r1
  have at_ : ∀ b ∈ [s1.heap.objs.size], FpOk X pins H1 b := fun b hb => by
    obtain rfl : b = s1.heap.objs.size := by simpa using hb
    exact I1.fpOk (Nat.le_refl _) (I1.hok.fresh (Nat.le_refl _))
  rcases q with ⟨⟨xs, hq⟩, q⟩ | ⟨⟨xs, hq⟩, q⟩
  · obtain ⟨its, rv, p, hz⟩ := I1.list hq
    exact wpAny_pyIter_list p.isList ⟨s1.heap.objs.size, [s1.heap.objs.size], _, _, H1, rfl, I1.kept (t' := s1.toks) fun b o e => Heap.get?_push_of_some _ e, turn_list a _, ⟨_, Heap.get?_push_size _ rfl, rfl, rfl⟩, at_, q⟩
  · obtain ⟨its, rv, p, hz⟩ := I1.tuple hq
    exact wpAny_pyIter_tuple (show s1.heap.IsTuple a its.toArray from p) ⟨s1.heap.objs.size, [s1.heap.objs.size], _, _, H1, rfl, I1.kept (t' := s1.toks) fun b o e => Heap.get?_push_of_some _ e, turn_tuple a _, ⟨_, Heap.get?_push_size _ rfl, rfl, rfl⟩, at_, q⟩
theorem IsSeq.both {K : PySem.W.Frag} {H : Hp} {b : Addr} {xs : List V} (h : IsSeq K H b xs) : (∀ H', Same H H' → SqL K H' b xs) ∨ (∀ H', Same H H' → SqT K H' b xs) := by
  cases h with
  | lst h => exact .inl fun H' s => SqL.of (s _ _ h)
  | tup h => exact .inr fun H' s => SqT.of (s _ _ h)
  | wr e c h => exact .inr fun H' s => h H'
/-- a for over such, all but the new standing still -/
theorem for_sq {K : PySem.W.Frag} {a : Addr} {xs : List V} {g : TG} {tb : TS} {D : Ends} {σ : L2.St} {H0 H : Hp} (q : IsSeq K H0 a xs) (Pv : Nat → L2.St → Hp → Prop) (h0 : Pv 0 σ H) (still : ∀ i σ H, Pv i σ H → Same H0 H)
    (hs : ∀ i x σ H, xs[i]? = some x → Pv i σ H → g x σ H fun σ2 H2 => tb { D with nx := Pv (i + 1), ct := Pv (i + 1), bk := D.nx } σ2 H2) (hd : ∀ σ H, Pv xs.length σ H → D.nx σ H) :
    ((∃ xs, SqL K H a xs) ∧ ∃ W : Nat → Nat → L2.St → Hp → Prop, (∃ m, W 0 m σ H) ∧ ∀ i m σ H, W i m σ H →
      ((Itl K a).stop i H ∧ D.nx σ H) ∨ ((Itl K a).go i H ∧ ∃ N : L2.St → Hp → Prop, (∀ σ' H', N σ' H' → ∃ m', m' < m ∧ W (i + 1) m' σ' H') ∧ ∀ x H', (Itl K a).yld i H x H' → g x σ H' fun σ2 H2 => tb { D with nx := N, ct := N, bk := D.nx } σ2 H2)) ∨
    ((∃ xs, SqT K H a xs) ∧ ∃ W : Nat → Nat → L2.St → Hp → Prop, (∃ m, W 0 m σ H) ∧ ∀ i m σ H, W i m σ H →
      ((Itt K a).stop i H ∧ D.nx σ H) ∨ ((Itt K a).go i H ∧ ∃ N : L2.St → Hp → Prop, (∀ σ' H', N σ' H' → ∃ m', m' < m ∧ W (i + 1) m' σ' H') ∧ ∀ x H', (Itt K a).yld i H x H' → g x σ H' fun σ2 H2 => tb { D with nx := N, ct := N, bk := D.nx } σ2 H2)) := by
  rcases q.both with q | q
  · exact .inl ⟨⟨xs, q _ (still _ _ _ h0)⟩, for_list Pv h0 (fun i σ H _ p => q _ (still _ _ _ p)) hs hd⟩
  · exact .inr ⟨⟨xs, q _ (still _ _ _ h0)⟩, for_tup Pv h0 (fun i σ H _ p => q _ (still _ _ _ p)) hs hd⟩
/-- what a comprehension over such is to show -/
def LcB (K : PySem.W.Frag) (a : Addr) (g : TG) (tt : TT) (te : TE) (vs : List Nat) (σ : L2.St) (H1 : Hp) (Qd : Addr → Hp → Prop) : Prop :=
  ((∃ xs, SqL K H1 a xs) ∧ ∀ D, H1 D = none → ∃ W : Nat → Nat → Hp → Prop, (∃ m, W 0 m (upd H1 D (.lst []))) ∧ ∀ i m H, W i m H → ((Itl K a).stop i H ∧ Qd D H) ∨ ((Itl K a).go i H ∧ ∃ Nx : Hp → Prop, (∀ H', Nx H' → ∃ m', m' < m ∧ W (i + 1) m' H') ∧
      ∀ x H', (Itl K a).yld i H x H' → g x (wipe σ vs) H' fun σ2 H2 => wipe σ2 vs = wipe σ vs ∧ tt σ2 H2 fun b H3 => if b = true then te σ2 H3 fun y H4 => ∃ acc, H4 D = some (.lst acc) ∧ acc.length < sizeLine ∧ Nx (upd H4 D (.lst (acc ++ [y]))) else Nx H3)) ∨
  ((∃ xs, SqT K H1 a xs) ∧ ∀ D, H1 D = none → ∃ W : Nat → Nat → Hp → Prop, (∃ m, W 0 m (upd H1 D (.lst []))) ∧ ∀ i m H, W i m H → ((Itt K a).stop i H ∧ Qd D H) ∨ ((Itt K a).go i H ∧ ∃ Nx : Hp → Prop, (∀ H', Nx H' → ∃ m', m' < m ∧ W (i + 1) m' H') ∧
      ∀ x H', (Itt K a).yld i H x H' → g x (wipe σ vs) H' fun σ2 H2 => wipe σ2 vs = wipe σ vs ∧ tt σ2 H2 fun b H3 => if b = true then te σ2 H3 fun y H4 => ∃ acc, H4 D = some (.lst acc) ∧ acc.length < sizeLine ∧ Nx (upd H4 D (.lst (acc ++ [y]))) else Nx H3))
theorem lc_sq {K : PySem.W.Frag} {a : Addr} {xs : List V} {g : TG} {tt : TT} {te : TE} {vs : List Nat} {σ : L2.St} {H0 H1 : Hp} {Qd : Addr → Hp → Prop} (q : IsSeq K H0 a xs) (s0 : Same H0 H1)
    (body : ∀ D, H1 D = none → ∃ Pv : Nat → Hp → Prop, Pv 0 (upd H1 D (.lst [])) ∧ (∀ i H, Pv i H → Same H0 H) ∧ (∀ i x H, xs[i]? = some x → Pv i H → g x (wipe σ vs) H fun σ2 H2 => wipe σ2 vs = wipe σ vs ∧ tt σ2 H2 fun b H3 =>
      if b = true then te σ2 H3 fun y H4 => ∃ acc, H4 D = some (.lst acc) ∧ acc.length < sizeLine ∧ Pv (i + 1) (upd H4 D (.lst (acc ++ [y]))) else Pv (i + 1) H3) ∧ ∀ H, Pv xs.length H → Qd D H) : LcB K a g tt te vs σ H1 Qd := by
  rcases q.both with q | q
  · exact .inl ⟨⟨xs, q _ s0⟩, fun D hD => by
      obtain ⟨Pv, p0, st, tu, af⟩ := body D hD
      exact lc_list (K := K) (a := a) (xs := xs) Pv p0 (fun i H _ p => q _ (st i H p)) tu af⟩
  · exact .inr ⟨⟨xs, q _ s0⟩, fun D hD => by
      obtain ⟨Pv, p0, st, tu, af⟩ := body D hD
      exact lc_tup (K := K) (a := a) (xs := xs) Pv p0 (fun i H _ p => q _ (st i H p)) tu af⟩
theorem woD {H1 H H4 : Hp} {D : Addr} {o : HO} (h : H1 D = none) (s : Same H1 H) (s4 : Same H H4) : Same H1 (upd H4 D o) := fun b u e => by
  rw [upd_ne (ne_of_none e h)]
  exact s4 b u (s b u e)
theorem woU {H H4 : Hp} {D : Addr} {o : HO} (s4 : Same H H4) : Same (wo D H) (wo D (upd H4 D o)) := wo_keep fun b u e n => by
  rw [upd_ne n]
  exact s4 b u e
/-- a comprehension without tests whose step makes y of x, G telling how (of all but the new list), the old things standing still -/
theorem lc_pure {K : PySem.W.Frag} {a : Addr} {xs : List V} {g : TG} {te : TE} {vs : List Nat} {σ : L2.St} {H0 H1 : Hp} {Qd : Addr → Hp → Prop} (G : Nat → V → Hp → Prop) (keep : ∀ i y H H', G i y H → Same H H' → G i y H') (q : IsSeq K H0 a xs) (s0 : Same H0 H1) (hz : xs.length ≤ 2000000)
    (step : ∀ D i x H (k : V → Hp → Prop), xs[i]? = some x → H1 D = none → Same H1 H → (∃ acc, H D = some (.lst acc)) → (∀ y H4, Same H H4 → G i y (wo D H4) → k y H4) → g x (wipe σ vs) H fun σ2 H2 => wipe σ2 vs = wipe σ vs ∧ te σ2 H2 k)
    (after : ∀ D ys H, H1 D = none → Same H1 H → H D = some (.lst ys) → ys.length = xs.length → (∀ i y, ys[i]? = some y → G i y (wo D H)) → Qd D H) (gm : ∀ x σ H (Q Q' : L2.St → Hp → Prop), (∀ σ H, Q σ H → Q' σ H) → g x σ H Q → g x σ H Q') : LcB K a g tYes te vs σ H1 Qd := by
  refine lc_sq q s0 fun D hD => ⟨fun i H => Same H1 H ∧ ∃ acc, H D = some (.lst acc) ∧ acc.length = i ∧ i ≤ xs.length ∧ ∀ j y, acc[j]? = some y → G j y (wo D H), ⟨sameUpd (Same.refl _) hD, [], upd_same, rfl, Nat.zero_le _, fun j y e => by cases e⟩, fun i H p => s0.trans p.1, ?_, ?_⟩
  · rintro i x H hi ⟨s1, acc, hd, al, _, ha⟩
    have lt : i < xs.length := (List.getElem?_eq_some_iff.mp hi).1
    refine gm _ _ _ _ _ (fun σ2 H2 z => ⟨z.1, ?_⟩) (step D i x H (fun y H4 => ∃ acc, H4 D = some (.lst acc) ∧ acc.length < sizeLine ∧ (Same H1 (upd H4 D (.lst (acc ++ [y]))) ∧ ∃ acc', upd H4 D (.lst (acc ++ [y])) D = some (.lst acc') ∧ acc'.length = i + 1 ∧ i + 1 ≤ xs.length ∧ ∀ j y', acc'[j]? = some y' → G j y' (wo D (upd H4 D (.lst (acc ++ [y])))))) hi hD s1 ⟨acc, hd⟩ fun y H4 s4 gy => ?_)
    · unfold tYes
      dsimp only
      rw [if_pos rfl]
      exact z.2
    · refine ⟨acc, s4 _ _ hd, line2 (by omega), woD hD s1 s4, acc ++ [y], upd_same, by simp [al], lt, fun j y' e => ?_⟩
      by_cases lj : j < acc.length
      · rw [List.getElem?_append_left lj] at e
        exact keep _ _ _ _ (ha j y' e) (woU s4)
      · have ej : j = i := by
          have := (List.getElem?_eq_some_iff.mp e).1
          simp at this
          omega
        subst ej
        rw [List.getElem?_append_right (by omega), al, Nat.sub_self] at e
        cases e
        exact keep _ _ _ _ gy (woU (Same.refl _))
  · rintro H ⟨s1, acc, hd, al, _, ha⟩
    exact after D acc H hD s1 hd al ha
end Kx

set_option maxHeartbeats 4000000
namespace Kx
open PySem L2
theorem call_lenK {X : Cx} {K : PySem.W.Frag} (h : X.K = K) : CallR X (.builtin "len") (fun xs H Q => ∃ p ys, xs = [.ref p] ∧ (SqL K H p ys ∨ SqT K H p ys) ∧ Q (.int ys.length) H) := by
  subst h
  exact call_len_seq
def spSeqK (K : PySem.W.Frag) : Sp := fun vs H Q _ => ∃ (x : V) (b : Bool), vs = [x] ∧ SeqQ K H x b ∧ ∀ H', Same H H' → Q (.bl b) H'
structure Hm (mg : Str → Option Value) : Prop where
  years : ∃ t, mg "MOST_YEARS" = some (.int 1000000 t)
  deeds : ∃ t, mg "MOST_DEEDS" = some (.int 1000000 t)
  sum : mg "sum" = none
def spLong (K : PySem.W.Frag) : Sp := fun vs H Q _ => ∃ (b : Addr) (xs : List V) (rs : List (Option (List (Option (List V))))), vs = [.ref b] ∧ IsSeq K H b xs ∧ Paired (YearIs K H) xs rs ∧ xs.length ≤ 1000003 ∧ ∀ H', Same H H' → Q (.bl (tooMany rs)) H'
def lensY (rs : List (Option (List (Option (List V))))) : List Int := rs.flatMap fun r => match r with
  | none => []
  | some l => [(l.length : Int)]
theorem lensY_sum : ∀ rs : List (Option (List (Option (List V)))), (lensY rs).sum = (countD rs : Nat)
  | [] => rfl
  | none :: rs => by
    have ih := lensY_sum rs
    have e : countD (none :: rs) = countD rs := by simp [countD, lenY]
    have e2 : lensY (none :: rs) = lensY rs := by simp [lensY]
    rw [e, e2, ih]
  | some l :: rs => by
    have ih := lensY_sum rs
    have e : countD (some l :: rs) = l.length + countD rs := by simp [countD, lenY]
    have e2 : lensY (some l :: rs) = (l.length : Int) :: lensY rs := by simp [lensY]
    rw [e, e2, List.sum_cons, ih]
    omega
theorem lensY_len : ∀ rs : List (Option (List (Option (List V)))), (lensY rs).length ≤ rs.length
  | [] => Nat.le_refl _
  | none :: rs => by
    have ih := lensY_len rs
    have e2 : lensY (none :: rs) = lensY rs := by simp [lensY]
    rw [e2, List.length_cons]
    omega
  | some l :: rs => by
    have ih := lensY_len rs
    have e2 : lensY (some l :: rs) = (l.length : Int) :: lensY rs := by simp [lensY]
    rw [e2, List.length_cons, List.length_cons]
    omega
theorem lensY_step {rs : List (Option (List (Option (List V))))} {i : Nat} {r : Option (List (Option (List V)))} (h : rs[i]? = some r) : lensY (rs.take (i + 1)) = lensY (rs.take i) ++ lensY [r] := by
  unfold lensY
  rw [take_succ_of h, List.flatMap_append]
section
variable {P : Program} {w : World} {K : PySem.W.Frag} {mg : Str → Option Value} {base : Heap}
theorem ok_seqK {f : Addr} {fd : FuncData} (F : Fun K "is_sequence" "is_sequence" sSeq f fd) (m : mg "is_sequence" = some (.ref f)) (B : Bm mg) : HasF P w K mg base "is_sequence" 1 ["thing"] (spSeqK K) := by
  refine ⟨f, fd, ?_, m, F.kp, F.binds fun _ _ _ _ _ _ us hl => match us, hl with | [_], _ => rfl⟩
  refine F.ok scSeq (fun vs H Q E h => ?_) (fun cdv A outer s H vs Q E hr h => ?_)
  · obtain ⟨a, b, rfl, _⟩ := h
    rfl
  · obtain ⟨x, b, rfl, ⟨n, hn, hb, ht⟩, k⟩ := h
    refine ⟨_, pss_one (ps_ret (pe_callB call_isiT (by rfl) B.isinstance (by decide +kernel) (pa_cons (pv 0) (pa_cons (pe_tup (pa_cons (pe_bltn (v := .ty "list") (by rfl) B.list (by decide +kernel) rfl) (pa_cons (pe_bltn (v := .ty "tuple") (by rfl) B.tuple (by decide +kernel) rfl) pa_nil))) pa_nil)))), ?_⟩
    refine ⟨_, rfl, by decide, fun t ht' => ?_⟩
    have s1 := sameUpd (o := .tup [.ty "list", .ty "tuple"]) (Same.refl H) ht'
    refine ⟨x, t, _, _, _, _, rfl, upd_same, .cons (.ty _) (.cons (.ty _) .nil), ht _ s1, kit_seq hn, ?_⟩
    rw [hb]
    exact k _ s1
theorem scLong : FnScope ["years", "year"] ["years"] (defScope sIsTooLong) := ⟨rfl, rfl, rfl, by decide +kernel, rfl, by decide +kernel, by decide +kernel⟩
theorem ok_long {f : Addr} {fd : FuncData} (F : Fun K "_is_too_long" "_is_too_long" sIsTooLong f fd) (m : mg "_is_too_long" = some (.ref f)) (T : Bl mg) (M : Hm mg) (Sq : HasF P w K mg base "is_sequence" 1 ["thing"] (spSeqK K)) : HasF P w K mg base "_is_too_long" 2 ["years"] (spLong K) := by
  refine ⟨f, fd, ?_, m, F.kp, F.binds fun _ _ _ _ _ _ us hl => match us, hl with | [_], _ => rfl⟩
  obtain ⟨f1, fd1, Sq⟩ := Sq
  obtain ⟨tY, mY⟩ := M.years; obtain ⟨tD, mD⟩ := M.deeds
  refine F.ok scLong (fun vs H Q E h => ?_) (fun cdv A outer s H vs Q E hr h => ?_)
  · obtain ⟨a, b, c, rfl, _⟩ := h
    rfl
  · obtain ⟨b, xs, rs, rfl, hq, hy, hz, k⟩ := h
    have lx := Paired.length hy
    refine ⟨_, (pss_cons (ps_if (pt_cmpR op_gt (pe_callB call_len_seq (by rfl) T.len PySem.boot_len (pa_cons (pv 0) pa_nil)) (pe_glob (v := .int 1000000) rfl mY ⟨_, rfl⟩) (nomark _)) (pss_one (ps_ret pe_bl)) pss_nil)
    (pss_one (ps_ret (pe_cmpR op_gt (pe_callB (cr_sum rfl) (by rfl) M.sum (by decide +kernel) (pa_cons (pe_lc (own := [("year", 1)]) (g := gName 1) (by rfl) scLong.nd (pi_seq (pv 0)) (blkOk_by (own := [("year", 1)]) (N := ["years", "year"]) (sc := defScope sIsTooLong) (by decide +kernel))
          (fun _ _ _ _ _ => pg_name (i := 1) scLong.nd rfl (Or.inl rfl)) (fun _ _ _ _ _ => pts_one (pt_val (pe_call Sq.G hr (by rfl) Sq.m Sq.kp Sq.b .nil pass0 (pa_cons (pv 1) pa_nil)))) (fun _ _ _ _ _ => (pe_callB (call_lenK (K := K) rfl) (by rfl) T.len PySem.boot_len (pa_cons (pv 1) pa_nil)))) pa_nil)) (pe_glob (v := .int 1000000) rfl mD ⟨_, rfl⟩) (nomark _))))), ?_⟩
    refine ⟨_, rfl, b, xs, rfl, hq.sq, _, _, rfl, rfl, _, rfl, ?_⟩
    refine ite2 (fun h1 => ?_) (fun h1 => ?_)
    · have h1 := of_decide_eq_true h1
      have q := k _ (Same.refl _)
      have e : tooMany rs = true := by
        unfold tooMany
        rw [decide_eq_true (show 1000000 < rs.length by omega)]
        rfl
      rw [e] at q
      exact q
    · have h1 : ¬ (1000000 : Int) < ((xs.length : Nat) : Int) := fun e => h1 (decide_eq_true e)
      refine ⟨_, rfl, b, rfl, lc_sq (g := gName 1) hq (Same.refl _) fun D hD => ⟨fun i H3 => Same H H3 ∧ H3 D = some (.lst ((lensY (rs.take i)).map V.int)), ⟨sameUpd (Same.refl _) hD, upd_same⟩, fun i H3 p => p.1, ?_, ?_⟩⟩
      · rintro i x H3 hi ⟨s3, hd⟩
        obtain ⟨r, hr', hyr⟩ := pr_get hy hi
        have t := lensY_step hr'
        have yr3 := hyr.keep s3
        refine ⟨rfl, _, rfl, x, r.isSome, rfl, yr3.sq, fun H4 s4 => ⟨_, rfl, ?_⟩⟩
        have yr4 := yr3.keep s4
        cases yr4 with
        | oth h l =>
          refine (if_neg (by decide)).mpr ⟨s3.trans s4, ?_⟩
          rw [t]
          refine (s4 _ _ hd).trans ?_
          simp [lensY]
        | seq h a l =>
          rename_i b' ys ls
          refine (if_pos rfl).mpr ⟨_, rfl, b', ys, rfl, h.sq, _, s4 _ _ hd, line2 ?_, ?_, ?_⟩
          · rw [List.length_map]
            have := lensY_len (rs.take i)
            rw [List.length_take] at this
            omega
          · exact woD hD s3 s4
          · rw [upd_same, t]
            simp [lensY, Paired.length a]
      · rintro H3 ⟨s3, hd⟩
        rw [List.take_of_length_le (by omega)] at hd
        refine ⟨D, lensY rs, rfl, SqL.of hd, _, _, rfl, rfl, ?_⟩
        have q := k _ s3
        have e : tooMany rs = decide ((1000000 : Int) < (lensY rs).sum) := by
          unfold tooMany
          rw [decide_eq_false (show ¬ 1000000 < rs.length by omega), Bool.false_or, lensY_sum]
          by_cases z : 1000000 < countD rs
          · rw [decide_eq_true z, decide_eq_true (show (1000000 : Int) < (countD rs : Nat) by omega)]
          · rw [decide_eq_false z, decide_eq_false (show ¬ (1000000 : Int) < (countD rs : Nat) by omega)]
        rw [e] at q
        exact q
end
end Kx

set_option maxHeartbeats 4000000
namespace Kx
open PySem L2
theorem pr_of {α β : Type} {F : α → β → Prop} : ∀ {xs : List α} {ys : List β}, xs.length = ys.length → (∀ (i : Nat) (x : α) (y : β), xs[i]? = some x → ys[i]? = some y → F x y) → Paired F xs ys
  | [], [], _, _ => .nil
  | [], _ :: _, e, _ => by cases e
  | _ :: _, [], e, _ => by cases e
  | _ :: _, _ :: _, e, f => .cons (f 0 _ _ rfl rfl) (pr_of (Nat.succ.inj e) fun i x y e1 e2 => f (i + 1) x y e1 e2)
theorem call_tupK {X : Cx} {K : PySem.W.Frag} (h : X.K = K) : CallR X (.type "tuple") (fun xs H Q => ∃ p ys, xs = [.ref p] ∧ ((SqL K H p ys ∧ ∀ l, H l = none → Q (.ref l) (upd H l (.tup ys))) ∨ (SqT K H p ys ∧ Q (.ref p) H))) := by
  subst h
  exact call_tuple_of
theorem fin3 {K : PySem.W.Frag} {C : Addr} {f1 f2 f3 : Str} (T : OexC K C) (n1 : PySem.W.findIn K (.ref C) f1 = some none) (n2 : PySem.W.findIn K (.ref C) f2 = some none) (n3 : PySem.W.findIn K (.ref C) f3 = some none) {H : Hp} {x y z : V} {Q : XK} (q : ∀ d H', H d = none → Same H H' → H' d = some (.xd [(f3, z), (f2, y), (f1, x)]) → Q (.ref C) (some d) H') :
    [x, y, z].length ≤ 1000 ∧ ∀ a, H a = none → spInit3 K C f1 f2 f3 (.ref a :: ([x, y, z] ++ [])) (upd H a (exo a C none)) (fun v H2 => v = .non ∧ ∃ (d : Addr) (fs : List (Str × V)), H2 a = some (exo a C (some d)) ∧ H2 d = some (exd d fs) ∧ H d = none ∧ Q (.ref C) (some d) (upd (del H2 a) d (.xd fs))) (fun _ _ _ => False) := by
  refine ⟨(by show 3 ≤ 1000; decide), fun a ha => ⟨a, x, y, z, rfl, T, n1, n2, n3, upd_same, fun d H' hd ne ea ed kp => ⟨rfl, d, _, ea, ed, ?_, ?_⟩⟩⟩
  · rw [upd_ne ne] at hd
    exact hd
  · rw [upd_ne ne] at hd
    refine q d _ hd (fun b o e => ?_) upd_same
    have nba := ne_of_none e ha
    rw [upd_ne (ne_of_none e hd), del_ne nba]
    exact kp b o (by rw [upd_ne nba]; exact e) nba
/-- the fields of a BadHistory -/
def bhF (i j : Int) (w : Str) : List (Str × V) := [("what", .str w), ("index", .int j), ("year", .int i)]
/-- what BadHistory is -/
structure BH (P : Program) (w : World) (K : PySem.W.Frag) (mg : Str → Option Value) (base : Heap) (CB fB : Addr) (fdB : FuncData) : Prop where
  E : ErC P w K mg base "BadHistory" ["self", "year", "index", "what"] CB fB fdB (spInit3 K CB "year" "index" "what")
  n1 : PySem.W.findIn K (.ref CB) "year" = some none
  n2 : PySem.W.findIn K (.ref CB) "index" = some none
  n3 : PySem.W.findIn K (.ref CB) "what" = some none
def kbOk (ks : List (Str × Int)) : Prop := ∀ q ∈ ks, 0 ≤ q.2 ∧ q.2 ≤ 2
def spYearOf (K : PySem.W.Frag) (CK CB : Addr) : Sp := fun vs H Q E => ∃ (kp : Addr) (i : Int) (y : V) (ks : List (Str × Int)) (r : Option (List (Option (List V)))), vs = [.ref kp, .int i, y] ∧ KindsAt CK H kp (vv ks) ∧ kbOk ks ∧ YearIs K H y r ∧
  match yearWord ks r with
  | some (j, w) => ∀ d H', H d = none → Same H H' → H' d = some (.xd (bhF i j w)) → E (.ref CB) (some d) H'
  | none => ∀ x ds H', r = some (dR ds) → Same H H' → Ds .tup H' x ds → Q x H'
section
variable {P : Program} {w : World} {K : PySem.W.Frag} {mg : Str → Option Value} {base : Heap}
abbrev nYearOf : List Str := ["kinds", "index", "year", "place", "deed", "word"]
theorem scYearOf : FnScope nYearOf ["kinds", "index", "year"] (defScope sYearOf) := ⟨rfl, rfl, rfl, by decide +kernel, rfl, by decide +kernel, by decide +kernel⟩
theorem ok_yearof {f CK CB fB gF : Addr} {fd fdB fdF : FuncData} (F : Fun K "_year_of" "_year_of" sYearOf f fd) (m : mg "_year_of" = some (.ref f)) (T : Bl mg) (B : Bm mg) (KX : KC K CK) (Sq : HasF P w K mg base "is_sequence" 1 ["thing"] (spSeqK K))
    (OF : OwnM P w K mg base CK "fault" 2 ["self", "deed"] (spFault CK) gF fdF) (EB : BH P w K mg base CB fB fdB) :
    FnOk P w K mg base (L2.CX P w) 3 f fd ["kinds", "index", "year"] (spYearOf K CK CB) := by
  obtain ⟨f1, fd1, Sq⟩ := Sq
  refine F.okX scYearOf (fun vs H Q E h => ?_) (fun cdv A outer s H vs Q E hr h => ?_)
  · obtain ⟨a, b, c, d, e, rfl, _⟩ := h
    rfl
  · obtain ⟨kp, i0, y, ks, r, rfl, hk, kb, hy, k⟩ := h
    have hr1 : Room 1 _ := hr.mono (by decide)
    refine ⟨_, (pss_cons (ps_if (pt_not (pt_val (pe_call Sq.G hr1 (by rfl) Sq.m Sq.kp Sq.b .nil pass0 (pa_cons (pv 2) pa_nil)))) (pss_one (ps_raise rfl (takes_of rfl rfl rfl rfl) (pmk_oex EB.E.T EB.E.iC EB.E.tI EB.E.G hr EB.E.b .nil pass0 (by rfl) EB.E.gC (pa_cons (pv 1) (pa_cons pe_int (pa_cons pe_str pa_nil)))))) pss_nil)
    (C8.pss_cut (ps_for (passes_of rfl) rfl (pi_enumB (by rfl) T.enumerate (pa_cons (pv 2) pa_nil)) (pg_tup rfl (pgs_cons (pg_name (i := 3) scYearOf.nd rfl (Or.inl rfl)) (pgs_cons (pg_name (i := 4) scYearOf.nd rfl (Or.inl rfl)) pgs_nil)))
        (pss_cons (ps_set (i := 5) scYearOf.nd rfl (Or.inl rfl) (pe_meth (pv 0) KX.cl OF.M OF.G hr OF.b .nil pass0 (pa_cons (pv 4) pa_nil)))
    (pss_one (ps_if (pt_cmpR op_notN (pv 5) pe_non (nomark _)) (pss_one (ps_raise rfl (takes_of rfl rfl rfl rfl) (pmk_oex EB.E.T EB.E.iC EB.E.tI EB.E.G hr EB.E.b .nil pass0 (by rfl) EB.E.gC (pa_cons (pv 1) (pa_cons (pv 3) (pa_cons (pv 5) pa_nil)))))) pss_nil))))
    (pss_one (ps_ret (pe_callTy call_tuple_of (by rfl) B.tuple (by decide +kernel) (pa_cons (pe_lc (own := [("deed", 4)]) (g := gName 4) (tt := tYes) (by rfl) scYearOf.nd (pi_seq (pv 2)) (blkOk_by (own := [("deed", 4)]) (N := nYearOf) (sc := defScope sYearOf) (by decide +kernel))
          (fun _ _ _ _ _ => pg_name (i := 4) scYearOf.nd rfl (Or.inl rfl)) (fun _ _ _ _ _ => pts_nil) (fun _ _ _ _ _ => (pe_callTy (call_tupK (K := K) rfl) (by rfl) B.tuple (by decide +kernel) (pa_cons (pv 4) pa_nil)))) pa_nil)))))), ?_⟩
    refine ⟨_, rfl, y, _, rfl, hy.sq, fun H1 s1 => ⟨_, rfl, ?_⟩⟩
    have hy1 := hy.keep s1
    cases hy1 with
    | oth h l =>
      refine iteT ⟨_, rfl, fin3 EB.E.T EB.n1 EB.n2 EB.n3 fun d H2 hd s2 e2 => k d H2 (s1.free hd) (s1.trans s2) e2⟩
    | seq h a l =>
    rename_i b xs rs
    refine iteF ?_
    have lx := Paired.length a
    have k : match scanD ks 0 rs with
      | some (j, w) => ∀ d H', H d = none → Same H H' → H' d = some (.xd (bhF i0 j w)) → E (.ref CB) (some d) H'
      | none => ∀ x ds H', some rs = some (dR ds) → Same H H' → Ds .tup H' x ds → Q x H' := k
    have hk1 := hk.keep s1
    refine ⟨fun σ H2 => ∃ v3 v4 v5 : Option V, σ = [some (.ref kp), some (.int i0), some (.ref b), v3, v4, v5] ∧ Same H1 H2 ∧ scanD ks 0 rs = none, ?_, ?_⟩
    · refine ⟨_, rfl, b, xs, rfl, for_enumB (K := K) (a := b) (xs := xs) (fun i σ H2 => ∃ v3 v4 v5 : Option V, σ = [some (.ref kp), some (.int i0), some (.ref b), v3, v4, v5] ∧ Same H1 H2 ∧ scanD ks 0 rs = scanD ks i (rs.drop i))
        ⟨none, none, none, rfl, Same.refl _, rfl⟩ ?_ ?_ ?_⟩
      · rcases h.both with h | h
        · exact .inl fun i σ H2 ⟨_, _, _, _, s, _⟩ => h _ s
        · exact .inr fun i σ H2 ⟨_, _, _, _, s, _⟩ => h _ s
      · rintro i x σ H2 t hi ⟨v3, v4, v5, rfl, s2, sc⟩ ht
        have s3 : Same H1 (upd H2 t (.tup [.int (i : Nat), x])) := sameUpd s2 ht
        obtain ⟨r, hr', dx⟩ := pr_get a hi
        rw [scanD_step hr'] at sc
        refine ⟨t, _, rfl, SqT.of upd_same, rfl, _, _, rfl, _, _, rfl, rfl, ?_⟩
        obtain ⟨pdx, pfs, _, _, _, _, g1, _, _, _, g5, _⟩ := (hk1.keep s3).get (K := K)
        refine ⟨_, rfl, kp, pdx, pfs, rfl, g1, g5 _ (by decide +kernel) (by decide +kernel) (by decide +kernel), ?_⟩
        refine ⟨_, rfl, kp, x, r, ks, rfl, hk1.keep s3, dx.keep s3, kb, fun H4 s4 => ?_⟩
        have s5 : Same H1 H4 := s3.trans s4
        cases e : deedWord ks r with
        | some w' =>
          rw [e] at sc
          rw [sc] at k
          refine ⟨_, rfl, rfl, _, rfl, iteT ?_⟩
          exact ⟨_, rfl, _, rfl, _, rfl, fin3 EB.E.T EB.n1 EB.n2 EB.n3 fun d H5 hd s6 e6 => k d H5 ((s1.trans s5).free hd) ((s1.trans s5).trans s6) e6⟩
        | none =>
          rw [e] at sc
          exact ⟨_, rfl, rfl, _, rfl, iteF ⟨_, _, _, rfl, s5, sc⟩⟩
      · rintro σ H2 ⟨v3, v4, v5, rfl, s2, sc⟩
        refine ⟨v3, v4, v5, rfl, s2, ?_⟩
        rw [sc, lx, List.drop_length]
        rfl
    rintro σ H2 ⟨v3, v4, v5, rfl, s2, sc⟩
    rw [sc] at k
    obtain ⟨ds, rfl⟩ := scanD_none sc
    have ld : xs.length = ds.length := by rw [lx]; simp [dR]
    refine ⟨_, rfl, b, rfl, lc_pure (g := gName 4) (fun j y H' => ∀ d, ds[j]? = some d → Ss .tup H' y d) (fun j y H' H'' q s d e => (q d e).keep s) h s2 (by omega) ?_ ?_ fun x σ H Q Q' q z => q _ _ z⟩
    · rintro D i x H3 k' hi hD s3 ⟨acc, hacc⟩ kk
      obtain ⟨r, hr', dx⟩ := pr_get a hi
      obtain ⟨d, hd, rfl⟩ : ∃ d, ds[i]? = some d ∧ r = some (d.map V.str) := by
        have hr' : (ds.map fun d => some (d.map V.str))[i]? = some r := hr'
        rw [List.getElem?_map] at hr'
        cases e : ds[i]? with
        | none => rw [e] at hr'; cases hr'
        | some d => rw [e] at hr'; exact ⟨d, rfl, (Option.some.inj hr').symm⟩
      have only : ∀ {y : V} {H' : Hp}, Ss .tup H' y d → ∀ d', ds[i]? = some d' → Ss .tup H' y d' := fun q d' e => by rw [hd] at e; cases e; exact q
      have dx3 := dx.keep (s2.trans s3)
      cases dx3 with
      | lst h t l =>
        rename_i b'
        refine ⟨rfl, _, rfl, b', _, rfl, .inl ⟨SqL.of h, fun l hl => kk _ _ (sameUpd (Same.refl _) hl) (only ⟨l, rfl, wo_at upd_same fun e => ?_⟩)⟩⟩
        rw [e, hacc] at hl
        cases hl
      | tup h t l =>
        rename_i b'
        refine ⟨rfl, _, rfl, b', _, rfl, .inr ⟨SqT.of h, kk _ _ (Same.refl _) (only ⟨b', rfl, wo_at h fun e => ?_⟩)⟩⟩
        rw [e, hacc] at h
        cases h
    · intro D ys H3 hD s3 hd ly g
      refine ⟨D, ys, rfl, .inl ⟨SqL.of hd, fun l hl => ?_⟩⟩
      refine k _ ds _ rfl (sameUpd ((s1.trans s2).trans s3) hl) ⟨l, ys, rfl, upd_same, pr_of (by omega) fun i y d e1 e2 => ?_⟩
      exact ((g i y e1 d e2).keep wo_same).keep (sameUpd (Same.refl _) hl)
end
end Kx

set_option maxHeartbeats 4000000
namespace Kx
open PySem L2
/-- what a comprehension over an enumerated list or tuple is to show -/
def LcE (J : It) (g : TG) (tt : TT) (te : TE) (vs : List Nat) (σ : L2.St) (H1 : Hp) (Qd : Addr → Hp → Prop) : Prop :=
  ∀ D, H1 D = none → ∃ W : Nat → Nat → Hp → Prop, (∃ m, W 0 m (upd H1 D (.lst []))) ∧ ∀ i m H, W i m H → (J.stop i H ∧ Qd D H) ∨ (J.go i H ∧ ∃ Nx : Hp → Prop, (∀ H', Nx H' → ∃ m', m' < m ∧ W (i + 1) m' H') ∧
      ∀ x H', J.yld i H x H' → g x (wipe σ vs) H' fun σ2 H2 => wipe σ2 vs = wipe σ vs ∧ tt σ2 H2 fun b H3 => if b = true then te σ2 H3 fun y H4 => ∃ acc, H4 D = some (.lst acc) ∧ acc.length < sizeLine ∧ Nx (upd H4 D (.lst (acc ++ [y]))) else Nx H3)
theorem lc_en {K : PySem.W.Frag} {a : Addr} {xs : List V} {g : TG} {tt : TT} {te : TE} {vs : List Nat} {σ : L2.St} {H0 H1 : Hp} {Qd : Addr → Hp → Prop} (q : IsSeq K H0 a xs) (s0 : Same H0 H1)
    (body : ∀ D, H1 D = none → ∃ Pv : Nat → Hp → Prop, Pv 0 (upd H1 D (.lst [])) ∧ (∀ i H, Pv i H → Same H0 H) ∧ (∀ i x H T, xs[i]? = some x → Pv i H → H T = none → g (.ref T) (wipe σ vs) (upd H T (.tup [.int (i : Nat), x])) fun σ2 H2 => wipe σ2 vs = wipe σ vs ∧ tt σ2 H2 fun b H3 =>
      if b = true then te σ2 H3 fun y H4 => ∃ acc, H4 D = some (.lst acc) ∧ acc.length < sizeLine ∧ Pv (i + 1) (upd H4 D (.lst (acc ++ [y]))) else Pv (i + 1) H3) ∧ ∀ H, Pv xs.length H → Qd D H) :
    (SqL K H1 a xs ∧ LcE (Ite K a) g tt te vs σ H1 Qd) ∨ (SqT K H1 a xs ∧ LcE (IteT K a) g tt te vs σ H1 Qd) := by
  rcases q.both with q | q
  · refine .inl ⟨q _ s0, fun D hD => ?_⟩
    obtain ⟨Pv, p0, st, tu, af⟩ := body D hD
    refine ⟨fun i m H => m + i = xs.length ∧ Pv i H, ⟨xs.length, by omega, p0⟩, fun i m H u => ?_⟩
    obtain ⟨e, u⟩ := u
    cases m with
    | zero =>
      obtain rfl : i = xs.length := by omega
      exact .inl ⟨⟨xs, q _ (st _ _ u), Nat.le_refl _⟩, af _ u⟩
    | succ m =>
      have lt : i < xs.length := by omega
      refine .inr ⟨⟨xs, xs[i], q _ (st _ _ u), List.getElem?_eq_getElem lt⟩, Pv (i + 1), fun H' u' => ⟨m, Nat.lt_succ_self _, by omega, u'⟩, fun x H' y => ?_⟩
      obtain ⟨T, z, rfl, free, rfl, same⟩ := y
      exact tu i z H T (same xs (q _ (st _ _ u))) u free
  · refine .inr ⟨q _ s0, fun D hD => ?_⟩
    obtain ⟨Pv, p0, st, tu, af⟩ := body D hD
    refine ⟨fun i m H => m + i = xs.length ∧ Pv i H, ⟨xs.length, by omega, p0⟩, fun i m H u => ?_⟩
    obtain ⟨e, u⟩ := u
    cases m with
    | zero =>
      obtain rfl : i = xs.length := by omega
      exact .inl ⟨⟨xs, q _ (st _ _ u), rfl⟩, af _ u⟩
    | succ m =>
      have lt : i < xs.length := by omega
      refine .inr ⟨⟨xs, xs[i], q _ (st _ _ u), List.getElem?_eq_getElem lt⟩, Pv (i + 1), fun H' u' => ⟨m, Nat.lt_succ_self _, by omega, u'⟩, fun x H' y => ?_⟩
      obtain ⟨T, z, rfl, free, rfl, same⟩ := y
      exact tu i z H T (same xs (q _ (st _ _ u))) u free
/-- what is known of the class History -/
structure HC (K : PySem.W.Frag) (C : Addr) : Prop where
  cl : Cls K C
  nK : NoAttr K C "kinds"
  nY : NoAttr K C "years"
  ca : PySem.W.findIn K (.ref C) "__class__" = some (some (.builtin "object.__class__"))
  cg : PySem.W.specialIn K (.builtin "object.__class__") "__get__" = some (some (.builtin "getset_descriptor.__get__"))
  ct : PySem.W.takesIn K (.builtin "object.__class__") = some true
  cm : PySem.W.mroIn K C (.type "object") = some true
/-- none of the kinds of other things is an instance of it -/
structure NotOf (K : PySem.W.Frag) (C : Addr) : Prop where
  non : PySem.W.kitOne K (.type "NoneType") (.ref C) = some false
  lst : PySem.W.kitOne K (.type "list") (.ref C) = some false
  str : PySem.W.kitOne K (.type "str") (.ref C) = some false
  tup : PySem.W.kitOne K (.type "tuple") (.ref C) = some false
theorem NotOf.kd {K : PySem.W.Frag} {C : Addr} (n : NotOf K C) {t : String} (h : t ∈ ["NoneType", "list", "str", "tuple"]) : PySem.W.kitOne K (.type t) (.ref C) = some false := by
  simp only [List.mem_cons, List.not_mem_nil, or_false] at h
  rcases h with h | h | h | h <;> subst h
  · exact n.non
  · exact n.lst
  · exact n.str
  · exact n.tup
def spHist (K : PySem.W.Frag) (C CK CB : Addr) : Sp := fun vs H Q E => ∃ (p dx : Addr) (k y : V) (r : Option (List (Option (List (Option (List V)))))), vs = [.ref p, k, y] ∧ H p = some (.ins C dx []) ∧ YearsIs K H y r ∧
  ((∃ n, Kd H k n ∧ n ∈ ["NoneType", "list", "str", "tuple"] ∧ ∀ d H', H d = none → Same H H' → H' d = some (.xd (bhF 0 0 "kinds")) → E (.ref CB) (some d) H') ∨
   (∃ kp ks, k = .ref kp ∧ kp ≠ p ∧ KindsAt CK H kp (vv ks) ∧ kbOk ks ∧ match yearsDue ks r with
    | some (i, j, w) => ∀ d H', H d = none → (∀ b o, H b = some o → b ≠ p → H' b = some o) → H' d = some (.xd (bhF (i : Nat) (j : Nat) w)) → E (.ref CB) (some d) H'
    | none => ∀ ys H', r = some (yR ys) → (∀ b o, H b = some o → b ≠ p → H' b = some o) → HistAt C CK H' p ks ys → Q .non H'))
section
variable {P : Program} {w : World} {K : PySem.W.Frag} {mg : Str → Option Value} {base : Heap}
abbrev nHist : List Str := ["self", "kinds", "years", "index", "year"]
theorem scHist : FnScope nHist ["self", "kinds", "years"] (defScope sHistory_init) := ⟨rfl, rfl, rfl, by decide +kernel, rfl, by decide +kernel, by decide +kernel⟩
theorem ok_hist {f C CK CB fB gY : Addr} {fd fdB fdY : FuncData} {dv : V} (F : FunD K "__init__" "History.__init__" (defArgs sHistory_init) (defBody sHistory_init) (defScope sHistory_init) [dv] [] f fd) (T : Bl mg) (B : Bm mg) (KX : KC K CK) (HX : HC K C) (NK : NotOf K CK) (mK : mg "Kinds" = some (.ref CK)) (Sq : HasF P w K mg base "is_sequence" 1 ["thing"] (spSeqK K)) (Lg : HasF P w K mg base "_is_too_long" 2 ["years"] (spLong K))
    (YO : FnOk P w K mg base (L2.CX P w) 3 gY fdY ["kinds", "index", "year"] (spYearOf K CK CB)) (mY : mg "_year_of" = some (.ref gY)) (kpY : PySem.W.keepIn K (.ref gY) = true) (bY : Binds K fdY ["kinds", "index", "year"] []) (EB : BH P w K mg base CB fB fdB) :
    FnOk P w K mg base (L2.CX P w) 4 f fd ["self", "kinds", "years"] (spHist K C CK CB) := by
  obtain ⟨f1, fd1, Sq⟩ := Sq; obtain ⟨f2, fd2, Lg⟩ := Lg
  refine F.ok scHist (fun vs H Q E h => ?_) (fun cdv A outer s H vs Q E hr h => ?_)
  · obtain ⟨a, b, c, d, e, rfl, _⟩ := h
    rfl
  · obtain ⟨p, dx, k0, y, r, rfl, hp, hy, k⟩ := h
    have hr1 : Room 1 _ := hr.mono (by decide)
    have hr2 : Room 2 _ := hr.mono (by decide)
    refine ⟨_, (pss_cons (ps_if (pt_not (pt_val (pe_callB call_isi (by rfl) B.isinstance (by decide +kernel) (pa_cons (pv 1) (pa_cons (pe_glob (v := .ref CK) rfl mK rfl) pa_nil))))) (pss_one (ps_raise rfl (takes_of rfl rfl rfl rfl) (pmk_oex EB.E.T EB.E.iC EB.E.tI EB.E.G hr2 EB.E.b .nil pass0 (by rfl) EB.E.gC (pa_cons pe_int (pa_cons pe_int (pa_cons pe_str pa_nil)))))) pss_nil)
    (pss_cons (ps_if (pt_not (pt_val (pe_call Sq.G hr1 (by rfl) Sq.m Sq.kp Sq.b .nil pass0 (pa_cons (pv 2) pa_nil)))) (pss_one (ps_raise rfl (takes_of rfl rfl rfl rfl) (pmk_oex EB.E.T EB.E.iC EB.E.tI EB.E.G hr2 EB.E.b .nil pass0 (by rfl) EB.E.gC (pa_cons pe_int (pa_cons pe_int (pa_cons pe_str pa_nil)))))) pss_nil)
    (pss_cons (ps_if (pt_val (pe_call Lg.G hr2 (by rfl) Lg.m Lg.kp Lg.b .nil pass0 (pa_cons (pv 2) pa_nil))) (pss_one (ps_raise rfl (takes_of rfl rfl rfl rfl) (pmk_oex EB.E.T EB.E.iC EB.E.tI EB.E.G hr2 EB.E.b .nil pass0 (by rfl) EB.E.gC (pa_cons pe_int (pa_cons pe_int (pa_cons pe_str pa_nil)))))) pss_nil)
    (pss_cons (ps_fld (pv 0) (pv 1) rfl)
    (pss_one (ps_fld (pv 0) (pe_callTy call_tuple_of (by rfl) B.tuple (by decide +kernel) (pa_cons (pe_lcX (own := [("index", 3), ("year", 4)]) (g := gTup K 2 (gCons (gName 3) (gCons (gName 4) gNil))) (tt := tYes) (te := fun E => tCallS (spYearOf K CK CB) (fun _ => E) _) rfl rfl (takes_of rfl rfl rfl rfl) (by rfl) scHist.nd (pi_enumB (by rfl) T.enumerate (pa_cons (pv 2) pa_nil)) (blkOk_by (own := [("index", 3), ("year", 4)]) (N := nHist) (sc := defScope sHistory_init) (by decide +kernel))
          (fun _ _ _ _ _ _ => pg_tup rfl (pgs_cons (pg_name scHist.nd rfl (.inl rfl)) (pgs_cons (pg_name scHist.nd rfl (.inl rfl)) pgs_nil))) (fun _ _ _ _ _ _ => pts_nil) (fun _ _ _ _ _ _ => pe_callS YO hr (by rfl) mY kpY bY (fun σ => passB σ) (pa_cons (pv 1) (pa_cons (pv 3) (pa_cons (pv 4) pa_nil))))) pa_nil)) rfl)))))), ?_⟩
    have off : ∀ {H' : Hp}, Same H H' → ∀ b o, H b = some o → b ≠ p → H' b = some o := fun s b o e _ => s b o e
    rcases k with ⟨n, kn, nin, k⟩ | ⟨kp, ks, rfl, kne, hk, kb, k⟩
    · refine ⟨_, rfl, k0, _, _, _, _, rfl, .own CK, kn.ty, NK.kd nin, _, rfl, iteT ?_⟩
      exact fin3 EB.E.T EB.n1 EB.n2 EB.n3 fun d H2 hd s2 e2 => k d H2 hd s2 e2
    obtain ⟨kdx, kfs, _, _, _, _, g1, _⟩ := hk.get (K := K)
    refine ⟨_, rfl, _, _, _, _, _, rfl, .own CK, KX.ty g1, kit_self, _, rfl, iteF ?_⟩
    refine ⟨_, rfl, y, _, rfl, hy.sq, fun H1 s1 => ⟨_, rfl, ?_⟩⟩
    have hy1 := hy.keep s1
    cases hy1 with
    | oth h l =>
      refine iteT (fin3 EB.E.T EB.n1 EB.n2 EB.n3 fun d H2 hd s2 e2 => ?_)
      have k : ∀ d H', H d = none → (∀ b o, H b = some o → b ≠ p → H' b = some o) → H' d = some (.xd (bhF 0 0 "years")) → E (.ref CB) (some d) H' := k
      exact k d H2 (s1.free hd) (off (s1.trans s2)) e2
    | seq h a l =>
    rename_i b xs rs
    refine iteF ?_
    have lx := Paired.length a
    refine ⟨_, rfl, b, xs, rs, rfl, h, a, l, fun H2 s2 => ⟨_, rfl, ?_⟩⟩
    have k : match (if tooMany rs = true then some (0, 0, Str.ofString "many") else scanY ks 0 rs) with
      | some (i, j, w) => ∀ d H', H d = none → (∀ b o, H b = some o → b ≠ p → H' b = some o) → H' d = some (.xd (bhF (i : Nat) (j : Nat) w)) → E (.ref CB) (some d) H'
      | none => ∀ ys H', some rs = some (yR ys) → (∀ b o, H b = some o → b ≠ p → H' b = some o) → HistAt C CK H' p ks ys → Q .non H' := k
    cases em : tooMany rs with
    | true =>
      rw [em, if_pos rfl] at k
      exact iteT (fin3 EB.E.T EB.n1 EB.n2 EB.n3 fun d H3 hd s3 e3 => k d H3 ((s1.trans s2).free hd) (off ((s1.trans s2).trans s3)) e3)
    | false =>
    rw [em, if_neg Bool.false_ne_true] at k
    refine iteF ?_
    have s02 := s1.trans s2
    have hp2 := s02 _ _ hp
    refine ⟨_, rfl, _, rfl, p, C, dx, [], rfl, hp2, HX.cl, HX.nK, (by show 0 < 1000; decide), ?_⟩
    obtain ⟨H3, eH3⟩ : ∃ H3, upd H2 p (.ins C dx (putF "kinds" (.ref kp) [])) = H3 := ⟨_, rfl⟩
    have hp3 : H3 p = some (.ins C dx (putF "kinds" (.ref kp) [])) := by rw [← eH3]; exact upd_same
    have w23 : Same (wo p H2) (wo p H3) := by rw [← eH3]; exact woU (Same.refl _)
    rw [show upd H2 p (.ins C dx (putF "kinds" (.ref kp) [])) = H3 from eH3]
    have hk3 : KindsAt CK (wo p H3) kp (vv ks) := ((hk.keep s02).off hp2 kne).keep w23
    have h3 : IsSeq K (wo p H3) b xs := ((h.keep s2).off hp2).keep w23
    have a3 : Paired (YearIs K (wo p H3)) xs rs := pr_imp a fun _ _ q => (((q.keep s2).off hp2).keep w23)
    have back : ∀ {H' : Hp}, Same (wo p H3) (wo p H') → ∀ b o, H b = some o → b ≠ p → H' b = some o := fun s b o e ne => wo_same _ _ (s b o (w23 b o (wo_at (s02 b o e) ne)))
    have h0 : ∀ {d : Addr} {H' : Hp}, (∀ b o, H b = some o → b ≠ p → H' b = some o) → H' d = none → H' p ≠ none → H d = none := fun {d H'} q hd hp' => by
      cases e : H d with
      | none => rfl
      | some o =>
        by_cases z : d = p
        · rw [z] at hd; exact absurd hd hp'
        · rw [q d o e z] at hd; cases hd
    refine ⟨_, rfl, b, xs, rfl, lc_en h3 wo_same fun D hD => ⟨fun i H4 => Same H3 H4 ∧ scanY ks 0 rs = scanY ks i (rs.drop i) ∧ ∃ acc ys, H4 D = some (.lst acc) ∧ rs.take i = yR ys ∧ Paired (Ds .tup (wo D H4)) acc ys ∧ acc.length = i ∧ i ≤ xs.length, ⟨sameUpd (Same.refl _) hD, rfl, [], [], upd_same, rfl, .nil, rfl, Nat.zero_le _⟩, fun i H4 q => wo_same.trans q.1, ?_, ?_⟩⟩
    · rintro i x H4 t hi ⟨s4, sc, acc, ys, hacc, ey, ad, al, _⟩ ht
      have lt : i < xs.length := (List.getElem?_eq_some_iff.mp hi).1
      have s5 : Same H3 (upd H4 t (.tup [.int (i : Nat), x])) := sameUpd s4 ht
      have tD : t ≠ D := (ne_of_none hacc ht).symm
      obtain ⟨r, hr', dx'⟩ := pr_get a3 hi
      rw [scanY_step hr'] at sc
      refine ⟨t, _, rfl, SqT.of upd_same, rfl, _, _, rfl, _, _, rfl, rfl, rfl, ?_⟩
      refine ⟨_, rfl, _, rfl, _, rfl, kp, (i : Nat), x, ks, r, rfl, (hk3.keep wo_same).keep s5, kb, (dx'.keep wo_same).keep s5, ?_⟩
      cases e : yearWord ks r with
      | some jw =>
        obtain ⟨j, w'⟩ := jw
        rw [e] at sc
        have sc : scanY ks 0 rs = some (i, j, w') := sc
        rw [sc] at k
        intro d H5 hd s6 e6
        have q := back (wo_mono (s5.trans s6))
        exact k d H5 (h0 (back (wo_mono s5)) hd (by rw [s5 _ _ hp3]; exact fun z => nomatch z)) q e6
      | none =>
        rw [e] at sc
        have sc : scanY ks 0 rs = scanY ks (i + 1) (rs.drop (i + 1)) := sc
        intro z ds H5 er s6 hz
        subst er
        have hD5 : H5 D = some (.lst acc) := s6 _ _ (by rw [upd_ne tD.symm]; exact hacc)
        have hz' : Ds .tup (wo D H5) z ds := by
          obtain ⟨a1, zs, e1, e2, e3⟩ := hz
          refine ⟨a1, zs, e1, wo_at e2 (fun q => by rw [q, hD5] at e2; cases e2), pr_imp e3 fun u v q => ?_⟩
          obtain ⟨a2, f1, f2⟩ := q
          exact ⟨a2, f1, wo_at f2 fun q => by rw [q, hD5] at f2; cases f2⟩
        refine ⟨acc, hD5, line2 (by omega), woD hD s5 s6, sc, acc ++ [z], ys ++ [ds], upd_same, ?_, ?_, by simp [al], lt⟩
        · rw [take_succ_of hr', ey]
          simp [yR]
        · have w5 : Same (wo D H4) (wo D (upd H5 D (.lst (acc ++ [z])))) := ((wo_mono (sameUpd (Same.refl _) ht)).trans (wo_mono s6)).trans (woU (Same.refl _))
          exact pr_app (pr_imp ad fun _ _ q => q.keep w5) (.cons (hz'.keep (woU (Same.refl _))) .nil)
    · rintro H4 ⟨s4, sc, acc, ys, hacc, ey, ad, al, _⟩
      have sc : scanY ks 0 rs = none := by
        rw [sc, lx, List.drop_length]
        rfl
      rw [List.take_of_length_le (by omega)] at ey
      subst ey
      rw [sc] at k
      have Dp : D ≠ p := (ne_of_none hp3 hD).symm
      refine ⟨D, acc, rfl, .inl ⟨SqL.of hacc, fun l hl => ?_⟩⟩
      have lp : l ≠ p := (ne_of_none (s4 _ _ hp3) hl).symm
      have hp5 : upd H4 l (.tup acc) p = some (.ins C dx (putF "kinds" (.ref kp) [])) := by rw [upd_ne lp.symm]; exact s4 _ _ hp3
      refine ⟨_, rfl, p, C, dx, _, rfl, hp5, HX.cl, HX.nY, (by show 1 < 1000; decide), ?_⟩
      have s5 : Same (wo p H4) (wo p (upd (upd H4 l (.tup acc)) p (.ins C dx (hFs kp l)))) := (wo_mono (sameUpd (Same.refl _) hl)).trans (woU (Same.refl _))
      have q := back ((wo_mono s4).trans s5)
      refine k ys _ rfl q ⟨dx, kp, l, upd_same, (hk3.keep (wo_mono s4)).keep (s5.trans wo_same), l, acc, rfl, by rw [upd_ne lp, upd_same], pr_imp ad fun u v z => ?_⟩
      have z : Ds .tup H4 u v := z.keep wo_same
      have off2 : Ds .tup (wo p H4) u v := by
        obtain ⟨a1, zs, e1, e2, e3⟩ := z
        refine ⟨a1, zs, e1, wo_at e2 (fun q => by rw [q, s4 _ _ hp3] at e2; cases e2), pr_imp e3 fun u v q => ?_⟩
        obtain ⟨a2, f1, f2⟩ := q
        exact ⟨a2, f1, wo_at f2 fun q => by rw [q, s4 _ _ hp3] at f2; cases f2⟩
      exact off2.keep (s5.trans wo_same)
end
end Kx

set_option maxHeartbeats 4000000
namespace Kx
open PySem L2
/-! what a history tells: persons, deeds -/
def add1 (acc : List Str) (z : Str) : List Str := if z ∈ acc then acc else acc ++ [z]
def addAll (acc zs : List Str) : List Str := zs.foldl add1 acc
theorem addAll_len : ∀ (zs acc : List Str), (addAll acc zs).length ≤ acc.length + zs.length
  | [], acc => by simp [addAll]
  | z :: zs, acc => by
    have ih := addAll_len zs (add1 acc z)
    have e : addAll acc (z :: zs) = addAll (add1 acc z) zs := rfl
    have l : (add1 acc z).length ≤ acc.length + 1 := by
      unfold add1
      split
      · omega
      · simp
    rw [e, List.length_cons]
    omega
theorem addAll_app (acc xs ys : List Str) : addAll acc (xs ++ ys) = addAll (addAll acc xs) ys := List.foldl_append
theorem addAll_one (acc xs : List Str) (z : Str) : addAll acc (xs ++ [z]) = add1 (addAll acc xs) z := by
  rw [addAll_app]
  rfl
def deedP (d : List Str) : List Str := d.tail
def yearP (y : List (List Str)) : List Str := y.flatMap deedP
def allP (ys : List (List (List Str))) : List Str := ys.flatMap yearP
def persOf (ys : List (List (List Str))) : List Str := addAll [] (allP ys)
theorem fm_take {α β : Type} {f : α → List β} {xs : List α} {i : Nat} {x : α} (h : xs[i]? = some x) : (xs.take (i + 1)).flatMap f = (xs.take i).flatMap f ++ f x := by
  rw [take_succ_of h, List.flatMap_append]
  simp
theorem fm_len {α β : Type} {f : α → List β} : ∀ (xs : List α) (i : Nat), ((xs.take i).flatMap f).length ≤ (xs.flatMap f).length
  | [], i => by simp
  | x :: xs, 0 => by simp
  | x :: xs, i + 1 => by
    have ih := fm_len (f := f) xs i
    simp only [List.take_succ_cons, List.flatMap_cons, List.length_append]
    omega
theorem fm_pre {α β : Type} {f : α → List β} {xs : List α} {i : Nat} {x : α} (h : xs[i]? = some x) : ((xs.take i).flatMap f ++ f x).length ≤ (xs.flatMap f).length := by
  rw [← fm_take h]
  exact fm_len xs (i + 1)
/-- the dict of the persons -/
def pD (ls : List Str) : List (Key × V) := ls.map fun z => (Sum.inr z, V.bl true)
theorem pD_any (ls : List Str) (z : Str) : ((pD ls).any fun kv => decide (kv.1 = (Sum.inr z : Key))) = decide (z ∈ ls) := by
  unfold pD
  rw [List.any_map]
  induction ls with
  | nil => rfl
  | cons y ls ih =>
    rw [List.any_cons, ih]
    by_cases e : y = z
    · subst e
      simp
    · have e2 : ¬ z = y := fun h => e h.symm
      have e3 : ¬ (Sum.inr y : Key) = Sum.inr z := fun h => e (Sum.inr.inj h)
      simp [e2, e3]
theorem pD_put (ls : List Str) (z : Str) : putK (pD ls) (Sum.inr z : Key) (V.bl true) = pD (add1 ls z) := by
  unfold putK add1
  rw [pD_any]
  by_cases e : z ∈ ls
  · rw [if_pos (decide_eq_true e), if_pos e]
    unfold pD
    rw [List.map_map]
    refine List.map_congr_left fun y _ => ?_
    show (if (Sum.inr y : Key) = Sum.inr z then _ else _) = _
    split <;> rfl
  · rw [if_neg (by rw [decide_eq_false e]; decide), if_neg e]
    unfold pD
    rw [List.map_append]
    rfl
theorem pD_keys (ls : List Str) : ((pD ls).map fun kv => kV kv.1) = ls.map V.str := by
  unfold pD
  rw [List.map_map]
  rfl
def dCount (ys : List (List (List Str))) : Nat := (ys.map List.length).sum
def spPersons1 (C CK : Addr) : Sp := fun vs H Q _ => ∃ (p : Addr) (ks : List (Str × Int)) (ys : List (List (List Str))), vs = [.ref p] ∧ HistAt C CK H p ks ys ∧ (∀ y ∈ ys, ∀ d ∈ y, d ≠ []) ∧ (allP ys).length ≤ 2000000 ∧ ∀ q H', Same H H' → H q = none → H' q = some (.tup ((persOf ys).map V.str)) → Q (.ref q) H'
def spCount (C CK : Addr) : Sp := fun vs H Q _ => ∃ (p : Addr) (ks : List (Str × Int)) (ys : List (List (List Str))), vs = [.ref p] ∧ HistAt C CK H p ks ys ∧ ys.length ≤ 2000000 ∧ ∀ H', Same H H' → Q (.int (dCount ys : Nat)) H'
def spHLen (C CK : Addr) : Sp := fun vs H Q _ => ∃ (p : Addr) (ks : List (Str × Int)) (ys : List (List (List Str))), vs = [.ref p] ∧ HistAt C CK H p ks ys ∧ Q (.int (ys.length : Nat)) H
/-- where the years stand -/
def YearsOf (fs : List (Str × V)) (t : Addr) (_ : List V) : Prop := fs.lookup ("years" : Str) = some (.ref t)
section
variable {P : Program} {w : World} {K : PySem.W.Frag} {mg : Str → Option Value} {base : Heap}
theorem scHLen : FnScope ["self"] ["self"] (defScope sHistory_len) := ⟨rfl, rfl, rfl, by decide +kernel, rfl, by decide +kernel, by decide +kernel⟩
theorem ok_hlen {f C CK : Addr} {fd : FuncData} (F : Fun K "__len__" "History.__len__" sHistory_len f fd) (T : Bl mg) (HX : HC K C) : FnOk P w K mg base CX0 1 f fd ["self"] (spHLen C CK) := by
  refine F.ok scHLen (fun vs H Q E h => ?_) (fun cdv A outer s H vs Q E hr h => ?_)
  · obtain ⟨p, ks, ys, rfl, _⟩ := h
    rfl
  · obtain ⟨p, ks, ys, rfl, hk, k⟩ := h
    obtain ⟨dx, fs, kp, yt, h1, h2, h3, h4, h5, a, xs, ea, h6, h7⟩ := hk.ob
    cases ea
    refine ⟨_, pss_one (ps_ret (pe_callB call_len_seq (by rfl) T.len PySem.boot_len (pa_cons (pe_fld (pv 0) rfl) pa_nil))), ?_⟩
    refine ⟨_, rfl, p, C, dx, fs, _, rfl, h1, HX.cl, HX.nY, h3, yt, _, rfl, .inr (SqT.of h6), ?_⟩
    rw [Paired.length h7]
    exact k
theorem scHIter : FnScope ["self"] ["self"] (defScope sHistory_iter) := ⟨rfl, rfl, rfl, by decide +kernel, rfl, by decide +kernel, by decide +kernel⟩
theorem ok_hiter {f C : Addr} {fd : FuncData} (F : Fun K "__iter__" "History.__iter__" sHistory_iter f fd) (mI : mg "iter" = none) (HX : HC K C) : FnA P w K mg base CX0 1 f fd ["self"] (spIterT K C YearsOf) := by
  refine okA F scHIter (fun A s vs H Q E h => ?_) (fun cdv A outer s H vs Q E hr h => ?_)
  · obtain ⟨a, dx, fs, rfl, _⟩ := h
    rfl
  · obtain ⟨a, dx, fs, rfl, h1, t, zs, hT, hq, k⟩ := h
    refine ⟨_, pss_one (ps_ret (pe_callB call_iterT (by rfl) mI (by decide +kernel) (pa_cons (pe_fld (pv 0) rfl) pa_nil))), ?_⟩
    exact ⟨_, rfl, a, C, dx, fs, _, rfl, h1, HX.cl, HX.nY, hT, t, zs, rfl, hq, fun it e1 e2 => k it e1 e2⟩
abbrev nPers1 : List Str := ["self", "found", "year", "deed", "person"]
theorem scPers1 : FnScope nPers1 ["self"] (defScope sHistory_persons) := ⟨rfl, rfl, rfl, by decide +kernel, rfl, by decide +kernel, by decide +kernel⟩
theorem ok_pers {f C CK : Addr} {fd : FuncData} (F : Fun K "persons" "History.persons" sHistory_persons f fd) (B : Bm mg) (HX : HC K C) : FnOk P w K mg base CX0 1 f fd ["self"] (spPersons1 C CK) := by
  refine F.ok scPers1 (fun vs H Q E h => ?_) (fun cdv A outer s H vs Q E hr h => ?_)
  · obtain ⟨p, ks, ys, rfl, _⟩ := h
    rfl
  · obtain ⟨p, ks, ys, rfl, hk, ne, lz, k⟩ := h
    have hu := hu_of hr
    obtain ⟨dx, fs, kp, yt, h1, h2, h3, h4, h5, a, xs, ea, h6, h7⟩ := hk.ob
    cases ea
    have lx := Paired.length h7
    refine ⟨_, (pss_cons (ps_set (i := 1) scPers1.nd rfl (Or.inl rfl) pe_dnewK)
    (pss_cons (ps_for PassesOwn.never rfl (pi_tup (pe_fld (pv 0) rfl)) (pg_name (i := 2) scPers1.nd rfl (.inl rfl))
        (pss_one (ps_for PassesOwn.never rfl (pi_tup (pv 2)) (pg_name (i := 3) scPers1.nd rfl (.inl rfl))
          (pss_one (ps_for PassesOwn.never rfl (pi_tup (pe_slice sl_tup (pv 3) (po_some pe_int) po_none)) (pg_name (i := 4) scPers1.nd rfl (.inl rfl))
            (pss_one (ps_dput hu (pv 1) (pv 4) pe_bl rfl)))))))
    (pss_one (ps_ret (pe_callTy (call_tuple_dK rfl) (by rfl) B.tuple (by decide +kernel) (pa_cons (pv 1) pa_nil)))))), ?_⟩
    intro f hf
    have s0 : Same H (upd H f (.dK [])) := sameUpd (Same.refl _) hf
    have fp : f ≠ p := (ne_of_none h1 hf).symm
    refine ⟨_, rfl, p, C, dx, fs, _, rfl, s0 _ _ h1, HX.cl, HX.nY, h3, ?_⟩
    -- what stands: all but f as it was
    refine ⟨yt, rfl, ⟨_, SqT.of (s0 _ _ h6)⟩, for_tup (K := K) (a := yt) (xs := xs) (fun i σ H2 => ∃ v2 v3 v4 : Option V, σ = [some (.ref p), some (.ref f), v2, v3, v4] ∧ Same H H2 ∧ H2 f = some (.dK (pD (addAll [] ((ys.take i).flatMap yearP)))))
      ⟨none, none, none, rfl, s0, upd_same⟩ (fun i σ H2 _ ⟨_, _, _, _, s, _⟩ => SqT.of (s _ _ h6)) ?_ ?_⟩
    · rintro i x σ H2 hi ⟨v2, v3, v4, rfl, s2, hd2⟩
      obtain ⟨ds, hds, b, zs, rfl, hb, pz⟩ := pr_get h7 hi
      have memy : ds ∈ ys := List.mem_of_getElem? hds
      refine ⟨_, rfl, b, rfl, ⟨_, SqT.of (s2 _ _ hb)⟩, for_tup (K := K) (a := b) (xs := zs) (fun j σ H3 => ∃ v3 v4 : Option V, σ = [some (.ref p), some (.ref f), some (.ref b), v3, v4] ∧ Same H H3 ∧ H3 f = some (.dK (pD (addAll [] ((ys.take i).flatMap yearP ++ (ds.take j).flatMap deedP)))))
        ⟨v3, v4, rfl, s2, by simpa using hd2⟩ (fun j σ H3 _ ⟨_, _, _, s, _⟩ => SqT.of (s _ _ hb)) ?_ ?_⟩
      · rintro j x σ H3 hj ⟨v3, v4, rfl, s3, hd3⟩
        obtain ⟨d, hd, c, rfl, hc⟩ := pr_get pz hj
        obtain ⟨z0, zr, rfl⟩ : ∃ z0 zr, d = z0 :: zr := by
          cases d with
          | nil => exact absurd rfl (ne ds memy [] (List.mem_of_getElem? hd))
          | cons z0 zr => exact ⟨z0, zr, rfl⟩
        refine ⟨_, rfl, _, rfl, c, _, rfl, SqT.of (s3 _ _ hc), whole _ _, fun q hq => ?_⟩
        have s4 : Same H (upd H3 q (.tup (cutV ((z0 :: zr).map V.str) (some 1) none))) := sameUpd s3 hq
        have qf : q ≠ f := (ne_of_none hd3 hq).symm
        have ecut : cutV ((z0 :: zr).map V.str) (some 1) none = zr.map V.str := by rw [List.map_cons, cut1]
        refine ⟨q, rfl, ⟨_, SqT.of upd_same⟩, for_tup (K := K) (a := q) (xs := cutV ((z0 :: zr).map V.str) (some 1) none) (fun m σ H4 => ∃ v4 : Option V, σ = [some (.ref p), some (.ref f), some (.ref b), some (.ref c), v4] ∧ Same H H4 ∧ H4 q = some (.tup (cutV ((z0 :: zr).map V.str) (some 1) none)) ∧ H4 f = some (.dK (pD (addAll [] ((ys.take i).flatMap yearP ++ (ds.take j).flatMap deedP ++ zr.take m)))))
          ⟨v4, rfl, s4, upd_same, by rw [upd_ne qf.symm]; simpa using hd3⟩ (fun m σ H4 _ ⟨_, _, _, h, _⟩ => SqT.of h) ?_ ?_⟩
        · rintro m x σ H4 hm ⟨v4, rfl, s5, hq5, hd5⟩
          rw [ecut, List.getElem?_map] at hm
          obtain ⟨z, hz, rfl⟩ : ∃ z, zr[m]? = some z ∧ x = V.str z := by
            cases e : zr[m]? with
            | none => rw [e] at hm; cases hm
            | some z => rw [e] at hm; exact ⟨z, rfl, (Option.some.inj hm).symm⟩
          have bound : (pD (addAll [] ((ys.take i).flatMap yearP ++ (ds.take j).flatMap deedP ++ zr.take m))).length < sizeLine := by
            unfold pD
            rw [List.length_map]
            refine line2 ?_
            have b1 := addAll_len ((ys.take i).flatMap yearP ++ (ds.take j).flatMap deedP ++ zr.take m) []
            have b2 := fm_pre (f := yearP) hds
            have b3 : ((ds.take j).flatMap deedP ++ deedP (z0 :: zr)).length ≤ (yearP ds).length := fm_pre (f := deedP) hd
            have b4 : (deedP (z0 :: zr)).length = zr.length := rfl
            have b5 : (allP ys).length = (ys.flatMap yearP).length := rfl
            simp only [List.length_append, List.length_take, List.length_nil] at b1 b2 b3 ⊢
            omega
          refine ⟨_, rfl, _, rfl, f, _, rfl, DPut.k (k := Sum.inr z) hd5 bound, some (.str z), rfl, fun c' o e => ?_, ?_, ?_⟩
          · rw [upd_ne (ne_of_none e hf)]
            exact s5 c' o e
          · rw [upd_ne qf]
            exact hq5
          · rw [upd_same, pD_put, take_succ_of hz, ← List.append_assoc, addAll_one]
        · rintro σ H4 ⟨v4, rfl, s5, _, hd5⟩
          refine ⟨_, _, rfl, s5, ?_⟩
          rw [ecut, List.length_map, List.take_length, List.append_assoc] at hd5
          rw [hd5, fm_take hd]
          rfl
      · rintro σ H3 ⟨v3, v4, rfl, s3, hd3⟩
        refine ⟨_, _, _, rfl, s3, ?_⟩
        rw [hd3, Paired.length pz, List.take_length, fm_take hds]
        rfl
    · rintro σ H2 ⟨v2, v3, v4, rfl, s2, hd2⟩
      rw [lx, List.take_length] at hd2
      refine ⟨_, rfl, f, _, rfl, hd2, fun q hq => k q _ (sameUpd s2 hq) (s2.free hq) ?_⟩
      rw [upd_same, pD_keys]
      rfl
end
end Kx

set_option maxHeartbeats 4000000
namespace Kx
open PySem L2
/-! years as data; == of histories -/
def dD (d : List Str) : PyData := .tuple (d.map PyData.str)
def dDs (y : List (List Str)) : PyData := .tuple (y.map dD)
def dYs (ys : List (List (List Str))) : PyData := .tuple (ys.map dDs)
theorem eqvAll_map {α : Type} [DecidableEq α] {f : α → PyData} (hf : ∀ a b, PyData.eqv (f a) (f b) = decide (a = b)) : ∀ xs ys : List α, PyData.eqvAll (xs.map f) (ys.map f) = decide (xs = ys)
  | [], [] => rfl
  | [], _ :: _ => rfl
  | _ :: _, [] => rfl
  | x :: xs, y :: ys => by
    show (PyData.eqv (f x) (f y) && PyData.eqvAll (xs.map f) (ys.map f)) = _
    rw [hf, eqvAll_map hf xs ys]
    by_cases h1 : x = y
    · by_cases h2 : xs = ys
      · simp [h1, h2]
      · simp [h1, h2]
    · simp [h1]
theorem eqv_str (a b : Str) : PyData.eqv (.str a) (.str b) = decide (a = b) := by
  by_cases h : a = b
  · subst h
    simp [PyData.eqv]
  · simp [PyData.eqv, h]
theorem eqv_dD (a b : List Str) : PyData.eqv (dD a) (dD b) = decide (a = b) := by
  show PyData.eqvAll (a.map PyData.str) (b.map PyData.str) = _
  exact eqvAll_map eqv_str a b
theorem eqv_dDs (a b : List (List Str)) : PyData.eqv (dDs a) (dDs b) = decide (a = b) := by
  show PyData.eqvAll (a.map dD) (b.map dD) = _
  exact eqvAll_map eqv_dD a b
theorem eqv_dYs (a b : List (List (List Str))) : PyData.eqv (dYs a) (dYs b) = decide (a = b) := by
  show PyData.eqvAll (a.map dDs) (b.map dDs) = _
  exact eqvAll_map eqv_dDs a b
theorem lay_map {α : Type} {f : α → PyData} {n : Nat} : ∀ {xs : List α}, (∀ x ∈ xs, PyData.canLay0 (f x) = true ∧ PyData.depth (f x) ≤ n) → PyData.canLayAll0 (xs.map f) = true ∧ PyData.depthAll (xs.map f) ≤ n
  | [], _ => ⟨rfl, Nat.zero_le _⟩
  | x :: xs, h => by
    obtain ⟨h1, h2⟩ := h x (.head _)
    obtain ⟨h3, h4⟩ := lay_map (xs := xs) fun y m => h y (.tail _ m)
    refine ⟨?_, Nat.max_le.mpr ⟨h2, h4⟩⟩
    show (PyData.canLay0 (f x) && PyData.canLayAll0 (xs.map f)) = true
    rw [h1, h3]
    rfl
theorem lay_dD {d : List Str} (h : ∀ z ∈ d, PyData.strOk z = true) : PyData.canLay0 (dD d) = true ∧ PyData.depth (dD d) ≤ 1 := by
  obtain ⟨a, b⟩ := lay_map (f := PyData.str) (n := 0) (xs := d) fun z m => ⟨h z m, Nat.le_refl _⟩
  exact ⟨a, by show PyData.depthAll (d.map PyData.str) + 1 ≤ 1; omega⟩
theorem lay_dDs {y : List (List Str)} (h : ∀ d ∈ y, ∀ z ∈ d, PyData.strOk z = true) : PyData.canLay0 (dDs y) = true ∧ PyData.depth (dDs y) ≤ 2 := by
  obtain ⟨a, b⟩ := lay_map (f := dD) (n := 1) (xs := y) fun d m => lay_dD (h d m)
  exact ⟨a, by show PyData.depthAll (y.map dD) + 1 ≤ 2; omega⟩
def OkY (ys : List (List (List Str))) : Prop := ∀ y ∈ ys, ∀ d ∈ y, ∀ z ∈ d, PyData.strOk z = true
theorem shaped_dYs {ys : List (List (List Str))} (h : OkY ys) : SeqAt.shaped (dYs ys) = true := by
  obtain ⟨a, b⟩ := lay_map (f := dDs) (n := 2) (xs := ys) fun y m => lay_dDs (h y m)
  unfold SeqAt.shaped
  rw [Bool.and_eq_true]
  refine ⟨a, decide_eq_true ?_⟩
  show PyData.depthAll (ys.map dDs) + 1 ≤ 64
  omega
theorem dpAll_of {K : PySem.W.Frag} {H : Hp} {α : Type} {F : V → α → Prop} {f : α → PyData} (h : ∀ x a, F x a → Dp K H x (f a)) : ∀ {xs : List V} {as : List α}, Paired F xs as → DpAll K H xs (as.map f)
  | _, _, .nil => .nil
  | _, _, .cons a t => .cons (h _ _ a) (dpAll_of h t)
theorem dp_map {K : PySem.W.Frag} {H : Hp} : ∀ zs : List Str, DpAll K H (zs.map V.str) (zs.map PyData.str)
  | [] => .nil
  | z :: zs => .cons (.str z) (dp_map zs)
theorem Ys.dp {K : PySem.W.Frag} {H : Hp} {x : V} {ys : List (List (List Str))} (h : Ys .tup H x ys) : Dp K H x (dYs ys) := by
  obtain ⟨a, xs, rfl, h, p⟩ := h
  refine .tup (SqT.of h) (dpAll_of (fun x y q => ?_) p)
  obtain ⟨b, zs, rfl, g, p2⟩ := q
  refine .tup (SqT.of g) (dpAll_of (fun x d q => ?_) p2)
  obtain ⟨c, rfl, g⟩ := q
  exact .tup (SqT.of g) (dp_map d)
def OkK (ks : List (Str × Int)) : Prop := ∀ q ∈ ks, PyData.strOk q.1 = true
def spHEq (C CK : Addr) : Sp := fun vs H Q _ => ∃ (p : Addr) (y : V) (ks : List (Str × Int)) (ys : List (List (List Str))), vs = [.ref p, y] ∧ HistAt C CK H p ks ys ∧ OkK ks ∧ OkY ys ∧
  ((∃ (b : Addr) (ls : List (Str × Int)) (zs : List (List (List Str))), y = .ref b ∧ HistAt C CK H b ls zs ∧ OkK ls ∧ OkY zs ∧ Q (.bl (decide (ks = ls ∧ ys = zs))) H) ∨ ∃ (b : Addr) (zs : List V), y = .ref b ∧ H b = some (.tup zs) ∧ Q (.bl false) H)
def wholeN (y : V) (n : Nat) : Option Nat := match y with
  | .int i => if 0 ≤ i ∧ i ≤ (n : Int) then some i.toNat else none
  | _ => none
theorem wholeN_some {y : V} {n m : Nat} (h : wholeN y n = some m) : y = .int (m : Nat) ∧ m ≤ n := by
  cases y with
  | int i =>
    have h : (if 0 ≤ i ∧ i ≤ (n : Int) then some i.toNat else none) = some m := h
    by_cases q : 0 ≤ i ∧ i ≤ (n : Int)
    · rw [if_pos q] at h
      have e := Option.some.inj h
      exact ⟨by rw [← e]; congr 1; omega, by omega⟩
    · rw [if_neg q] at h; cases h
  | _ => cases h
theorem wholeN_V (y : V) (n : Nat) : wholeV y 0 (n : Int) = (wholeN y n).isSome := by
  cases y with
  | int i =>
    show (decide (0 ≤ i) && decide (i ≤ (n : Int))) = (if 0 ≤ i ∧ i ≤ (n : Int) then some i.toNat else none).isSome
    by_cases q : 0 ≤ i ∧ i ≤ (n : Int)
    · rw [if_pos q, decide_eq_true q.1, decide_eq_true q.2]
      rfl
    · rw [if_neg q]
      by_cases q1 : 0 ≤ i
      · rw [decide_eq_false (show ¬ i ≤ (n : Int) from fun h => q ⟨q1, h⟩), Bool.and_false]
        rfl
      · rw [decide_eq_false q1]
        rfl
  | _ => rfl
def spCut (C CK CY : Addr) (f : Nat → List (List (List Str)) → List (List (List Str))) : Sp := fun vs H Q E => ∃ (p : Addr) (y : V) (n : String) (ks : List (Str × Int)) (ys : List (List (List Str))), vs = [.ref p, y] ∧ HistAt C CK H p ks ys ∧ kbOk ks ∧ Kd H y n ∧
  match wholeN y ys.length with
  | some m => ∀ q H', H q = none → Same H H' → HistAt C CK H' q ks (f m ys) → Q (.ref q) H'
  | none => ∀ d H', H d = none → Same H H' → H' d = some (.xd [("years", y)]) → E (.ref CY) (some d) H'
def spHistOf (C CK : Addr) : Sp := fun vs H Q _ => ∃ (kp yt : Addr) (ks : List (Str × Int)) (ys : List (List (List Str))), vs = [.ref kp, .ref yt] ∧ KindsAt CK H kp (vv ks) ∧ kbOk ks ∧ Ys .tup H (.ref yt) ys ∧ ∀ q H', H q = none → Same H H' → HistAt C CK H' q ks ys → Q (.ref q) H'
def spLastOf : Sp := fun vs H Q _ => ∃ (a : Addr) (xs : List V) (m : Nat), vs = [.ref a, .int (m : Nat)] ∧ H a = some (.tup xs) ∧ m ≤ xs.length ∧ ∀ t H', Same H H' → H' t = some (.tup (xs.drop (xs.length - m))) → Q (.ref t) H'
theorem cut_take (xs : List V) (m : Nat) (h : m ≤ xs.length) : cutV xs none (some (m : Int)) = xs.take m := by
  unfold cutV
  have e1 : HT.sIx xs.length 0 none = 0 := rfl
  have e2 : HT.sIx xs.length xs.length (some (m : Int)) = m := by
    simp [HT.sIx]
    rw [if_neg (by omega)]
    omega
  rw [e1, e2]
  simp
theorem cut_drop (xs : List V) (m : Nat) (h : m ≤ xs.length) : cutV xs (some (m : Int)) none = xs.drop m := by
  unfold cutV
  have e1 : HT.sIx xs.length 0 (some (m : Int)) = m := by
    simp [HT.sIx]
    rw [if_neg (by omega)]
    omega
  have e2 : HT.sIx xs.length xs.length none = xs.length := rfl
  rw [e1, e2, List.take_of_length_le (by simp)]
theorem hFs_eq (k y : Addr) : hFs k y = [(Str.ofString "kinds", .ref k), (Str.ofString "years", .ref y)] := by
  unfold hFs
  simp only [putF, if_neg s_ky]
theorem hFs_put (k y z : Addr) : putF "years" (.ref z) (hFs k y) = hFs k z := by
  rw [hFs_eq, hFs_eq]
  simp only [putF, if_neg s_ky, if_true]
/-- a written empty tuple -/
structure Wnil (K : PySem.W.Frag) (e : Addr) : Prop where
  ex : ∃ o : Obj, K.lookup e = some o ∧ o.cls = .type "tuple" ∧ ∃ n, o.data = .seq #[] n
theorem Wnil.seq {K : PySem.W.Frag} {e : Addr} (w : Wnil K e) {H : Hp} : IsSeq K H e [] := by
  obtain ⟨o, h1, h2, n, h3⟩ := w.ex
  exact .wr h1 h2 fun H => .inr ⟨o, #[], n, h1, h2, h3, Nat.zero_le _, .nil⟩
section
variable {P : Program} {w : World} {K : PySem.W.Frag} {mg : Str → Option Value} {base : Heap}
theorem HC.ty {C : Addr} (k : HC K C) {H : Hp} {a dx : Addr} {fs : List (Str × V)} (h : H a = some (.ins C dx fs)) : TyX K H (.ref a) (.ref C) := .base (.ins h k.cl k.ca k.cg k.ct k.cm)
theorem scHEq : FnScope ["self", "other"] ["self", "other"] (defScope sHistory_eq) := ⟨rfl, rfl, rfl, by decide +kernel, rfl, by decide +kernel, by decide +kernel⟩
theorem ok_heq {f C CK gE : Addr} {fd fdE : FuncData} (F : Fun K "__eq__" "History.__eq__" sHistory_eq f fd) (B : Bm mg) (HX : HC K C) (KX : KC K CK) (NH : NotOf K C) (mH : mg "History" = some (.ref C)) (OE : OwnM P w K mg base CK "__eq__" 1 ["self", "other"] (spKEq CK) gE fdE) (nf : PySem.W.notFirst K CK (.ref CK) = true) :
    FnOk P w K mg base CX0 2 f fd ["self", "other"] (spHEq C CK) := by
  refine F.ok scHEq (fun vs H Q E h => ?_) (fun cdv A outer s H vs Q E hr h => ?_)
  · obtain ⟨p, y, ks, ys, rfl, _⟩ := h
    rfl
  · obtain ⟨p, y, ks, ys, rfl, hk, ok, oy, h⟩ := h
    refine ⟨_, pss_one (ps_ret (pe_and (pe_callB call_isi (by rfl) B.isinstance (by decide +kernel) (pa_cons (pv 1) (pa_cons (pe_glob (v := .ref C) rfl mH rfl) pa_nil)))
      (pe_and (pe_cmpR (op_eqOwn OE.M.at_ OE.M.fn OE.raw hr pass0) (pe_fld (pv 0) rfl) (pe_fld (pv 1) rfl) (nomark _)) (pe_one (pe_cmpR (op_eqD hr.units) (pe_fld (pv 0) rfl) (pe_fld (pv 1) rfl) (nomark _)))))), ?_⟩
    obtain ⟨dx, fs, kp, yt, h1, h2, h3, h4, h5, h6⟩ := hk.ob
    rcases h with ⟨b, ls, zs, rfl, hb, okl, oyz, k⟩ | ⟨b, zs, rfl, hb, k⟩
    · obtain ⟨dx', fs', kp', yt', g1, g2, g3, g4, g5, g6⟩ := hb.ob
      obtain ⟨kdx, kfs, _, _, _, _, i1, _⟩ := h5.get (K := K)
      obtain ⟨kdx', kfs', _, _, _, _, i1', _⟩ := g5.get (K := K)
      refine ⟨_, rfl, _, _, _, _, _, rfl, .own C, HX.ty g1, kit_self, _, rfl, iteT ?_⟩
      refine ⟨_, rfl, p, C, dx, fs, _, rfl, h1, HX.cl, HX.nK, h2, _, rfl, b, C, dx', fs', _, rfl, g1, HX.cl, HX.nK, g2, ?_⟩
      refine ⟨kp, kdx, kfs, rfl, i1, .inl ⟨kp', kdx', kfs', CK, rfl, i1', nf⟩, kp, _, ks, rfl, h5, ok, .inl ⟨kp', ls, rfl, g5, okl, _, rfl, _, rfl, ?_⟩⟩
      by_cases e : ks = ls
      · rw [decide_eq_true e]
        refine iteT ⟨_, rfl, p, C, dx, fs, _, rfl, h1, HX.cl, HX.nY, h3, _, rfl, b, C, dx', fs', _, rfl, g1, HX.cl, HX.nY, g3, dYs ys, dYs zs, h6.dp, g6.dp, shaped_dYs oy, shaped_dYs oyz, ?_⟩
        rw [eqv_dYs]
        have e2 : decide (ks = ls ∧ ys = zs) = decide (ys = zs) := by simp [e]
        rw [e2] at k
        exact k
      · rw [decide_eq_false e]
        have e2 : decide (ks = ls ∧ ys = zs) = false := by simp [e]
        rw [e2] at k
        exact iteF k
    · exact ⟨_, rfl, _, _, _, _, _, rfl, .own C, .base (.tup hb), NH.tup, _, rfl, iteF k⟩
theorem scLastOf : FnScope ["years", "many"] ["years", "many"] (defScope sLastOf) := ⟨rfl, rfl, rfl, by decide +kernel, rfl, by decide +kernel, by decide +kernel⟩
theorem ok_lastof {f : Addr} {fd : FuncData} (F : Fun K "_last_of" "_last_of" sLastOf f fd) (m : mg "_last_of" = some (.ref f)) (T : Bl mg) : HasF P w K mg base "_last_of" 1 ["years", "many"] spLastOf := by
  refine ⟨f, fd, ?_, m, F.kp, F.binds fun _ _ _ _ _ _ us hl => match us, hl with | [_, _], _ => rfl⟩
  refine F.ok scLastOf (fun vs H Q E h => ?_) (fun cdv A outer s H vs Q E hr h => ?_)
  · obtain ⟨a, b, c, rfl, _⟩ := h
    rfl
  · obtain ⟨a, xs, m, rfl, ha, lm, k⟩ := h
    refine ⟨_, pss_one (ps_ret (pe_slice sl_tupA (pv 0) (po_some (pe_op op_sub (pe_callB call_len_seq (by rfl) T.len PySem.boot_len (pa_cons (pv 0) pa_nil)) (pv 1))) po_none)), ?_⟩
    refine ⟨_, rfl, _, rfl, a, xs, rfl, .inr (SqT.of ha), _, rfl, _, _, rfl, rfl, ?_⟩
    have e1 : (((xs.length : Nat) : Int) - (m : Nat)) = (((xs.length - m : Nat)) : Int) := by omega
    refine ⟨_, rfl, a, xs, rfl, SqT.of ha, fun hw => ?_, fun hw t ht => ?_⟩
    · refine k a _ (Same.refl _) ?_
      rw [e1] at hw
      have e2 : HT.sIx xs.length 0 (some ((xs.length - m : Nat) : Int)) = xs.length - m := by
        simp [HT.sIx]
        try omega
      rw [e2] at hw
      rw [hw.1]
      exact ha
    · refine k t _ (sameUpd (Same.refl _) ht) ?_
      rw [e1, cut_drop xs _ (by omega), upd_same]
theorem scHistOf : FnScope ["kinds", "years", "made"] ["kinds", "years"] (defScope sHistoryOf) := ⟨rfl, rfl, rfl, by decide +kernel, rfl, by decide +kernel, by decide +kernel⟩
theorem ok_histof {f C CK CB fI ed : Addr} {fd fdI : FuncData} {ds : List Value} (F : Fun K "history_of" "history_of" sHistoryOf f fd) (m : mg "history_of" = some (.ref f)) (HX : HC K C) (mH : mg "History" = some (.ref C)) (MK : Mk K C fI) (we : Wnil K ed)
    (GI : FnOk P w K mg base (L2.CX P w) 4 fI fdI ["self", "kinds", "years"] (spHist K C CK CB)) (bI : Binds K fdI ["self", "kinds", "years"] ds) (rd : Vals [V.ref ed] ds) : HasF P w K mg base "history_of" 6 ["kinds", "years"] (spHistOf C CK) := by
  refine ⟨f, fd, ?_, m, F.kp, F.binds fun _ _ _ _ _ _ us hl => match us, hl with | [_, _], _ => rfl⟩
  refine F.ok scHistOf (fun vs H Q E h => ?_) (fun cdv A outer s H vs Q E hr h => ?_)
  · obtain ⟨a, b, c, d, rfl, _⟩ := h
    rfl
  · obtain ⟨kp, yt, ks, ys, rfl, hk, kb, hy, k⟩ := h
    refine ⟨_, (pss_cons (ps_set (i := 2) scHistOf.nd rfl (Or.inl rfl) (pe_make MK GI hr (by rfl) mH bI rd passL (pa_cons (pv 0) pa_nil)))
    (pss_cons (ps_fld (pv 2) (pv 1) rfl)
    (pss_one (ps_ret (pv 2))))), ?_⟩
    refine ⟨_, rfl, fun x dx hx hdx ne => ?_⟩
    have nx : ∀ b o, H b = some o → b ≠ x := fun b o e z => by rw [z, hx] at e; cases e
    have nd : ∀ b o, H b = some o → b ≠ dx := fun b o e z => by rw [z, hdx] at e; cases e
    have s1 : Same H (upd (upd H dx (.own x)) x (.ins C dx [])) := fun b o e => by rw [upd_ne (nx b o e), upd_ne (nd b o e)]; exact e
    have hk1 := hk.keep s1
    obtain ⟨kdx, kfs, _, _, _, _, i1, _⟩ := hk.get (K := K)
    refine ⟨x, dx, _, _, _, rfl, upd_same, .seq we.seq .nil (Nat.zero_le _), .inr ⟨kp, ks, rfl, nx _ _ i1, hk1, kb, ?_⟩⟩
    show ∀ ys H', _ → _ → _ → _
    intro ys0 H2 _ s2 hh
    refine ⟨rfl, ?_⟩
    obtain ⟨dx2, kp2, yt2, g1, g2, g3⟩ := hh.ex
    have kne : kp2 ≠ x := fun e => by
      obtain ⟨kdx2, kfs2, _, _, _, _, j1, j2, _⟩ := g2.get (K := K)
      rw [e, g1] at j1
      have e3 := Option.some.inj j1
      have e4 : hFs kp2 yt2 = kfs2 := by injection e3
      rw [← e4, hFs_no kp2 yt2 (by decide +kernel) (by decide +kernel)] at j2
      cases j2
    refine ⟨_, rfl, _, rfl, x, C, dx2, _, rfl, g1, HX.cl, HX.nY, (by rw [hFs_eq]; show 2 < 1000; decide), ?_⟩
    rw [hFs_put]
    have s3 : Same H (upd H2 x (.ins C dx2 (hFs kp2 yt))) := fun b o e => by
      rw [upd_ne (nx b o e)]
      exact s2 b o (s1 b o e) (nx b o e)
    refine ⟨_, rfl, k x _ hx s3 ⟨dx2, kp2, yt, upd_same, ((g2.off g1 kne).keep (woU (Same.refl _))).keep wo_same, hy.keep s3⟩⟩
end
end Kx

set_option maxHeartbeats 4000000
namespace Kx
open PySem PySem.Spec PyProof.Rows L2
section
variable {X : Cx} {CX : CXT} {k i : Nat} {f C : Addr} {sp : Sp} {E : XK} {x : Str} {p pos : Pos} {e : Expr} {es : List Expr} {t : TA}
/-- c(e, ..), c a local name that holds the class at C -/
theorem pe_makeLoc (M : Mk X.K C f) (F : FnR X.prog X.w X.K X.mg X.base CX k f sp) (hr : Room (k + 1) X.A) (hN : X.N[i]? = some x) (hv : Vis X.env.scope x) (hx : Passes CX X E) (ha : PA X (e :: es) t)
    (hdb : (x == ("__debug__" : Str)) = false := by decide) (hcd : (x == ("__classdict__" : Str)) = false := by decide)
    (he : starEach (e :: es) X.env = (false, eval e X.env) :: starEach es X.env := by rfl) (hpl : (backTo pos (starEach es X.env)).any (·.1) = false := by rfl) :
    PE X (.Call (.Name x p) (e :: es) [] pos) (fun σ H Q => σ[i]? = some (some (.ref C)) ∧ StX.tMakeR C sp E t σ H Q) := by
  refine ⟨fun pins s σ H Q I ⟨hs, ht⟩ => ?_⟩
  refine wpAny_Call_Name_kw (thn ((pe_var (pos := p) hN hv hdb hcd).run pins s σ H (fun v H1 => v = .ref C ∧ H1 = H) I ⟨.ref C, hs, rfl, rfl⟩) fun u s1 ⟨v, H1, I1, r1, q1⟩ => ?_)
  obtain ⟨rfl, rfl⟩ := q1
  cases r1
  exact PySem.W.callWith_K (h₀ := X.base) I1.ok.mod.kin M.kp (thn (ha.run pos pins s1 σ _ _ I1 ht) fun us s2 ⟨vs, H2, I2, r, q⟩ => ⟨I2.kIn, StX.run_makeR M F hr hx I2 r q⟩) he hpl
end
def spFrom (K : PySem.W.Frag) (C CK : Addr) : Sp := fun vs H Q _ => ∃ (kp p : Addr) (ks : List (Str × Int)) (r : Option (List (Option (List (Option (List V)))))), vs = [.ref C, .ref kp, .ref p] ∧ KindsAt CK H kp (vv ks) ∧ kbOk ks ∧ YearsIs K H (.ref p) r ∧ yearsDue ks r = none ∧
  ∀ q ys H', r = some (yR ys) → H q = none → Same H H' → HistAt C CK H' q ks ys → Q (.ref q) H'
/-- what is known of BadYears -/
structure BY (P : Program) (w : World) (K : PySem.W.Frag) (mg : Str → Option Value) (base : Heap) (CY fY : Addr) (fdY : FuncData) : Prop where
  E : ErC P w K mg base "BadYears" ["self", "years"] CY fY fdY (spInit1 K CY "years")
  n1 : PySem.W.findIn K (.ref CY) "years" = some none
def fst' (m : Nat) (ys : List (List (List Str))) : List (List (List Str)) := ys.take m
def lst' (m : Nat) (ys : List (List (List Str))) : List (List (List Str)) := ys.drop (ys.length - m)
def spCut2 (C CK CY : Addr) (f : Nat → List (List (List Str)) → List (List (List Str))) : Sp := fun vs H Q E => spCut C CK CY f vs H Q E ∧ ∀ p y ks ys, vs = [.ref p, y] → HistAt C CK H p ks ys → ys.length ≤ 2000000
theorem Ys.cut {H : Hp} {x : Addr} {ys : List (List (List Str))} (h : Ys .tup H (.ref x) ys) : ∃ xs, H x = some (.tup xs) ∧ Paired (Ds .tup H) xs ys := by
  obtain ⟨a, xs, e, h1, h2⟩ := h
  cases e
  exact ⟨xs, h1, h2⟩
section
variable {P : Program} {w : World} {K : PySem.W.Frag} {mg : Str → Option Value} {base : Heap}
theorem hist_free {C CK CB : Addr} {H : Hp} {kp x dx : Addr} {y : V} {ks : List (Str × Int)} {r : Option (List (Option (List (Option (List V)))))} {Q : VK} {E : XK} (hk : KindsAt CK H kp (vv ks)) (kb : kbOk ks) (hy : YearsIs K H y r) (due : yearsDue ks r = none) (hx : H x = none) (hdx : H dx = none)
    (k : ∀ ys H', r = some (yR ys) → Same H H' → HistAt C CK H' x ks ys → Q .non H') : spHist K C CK CB [.ref x, .ref kp, y] (upd (upd H dx (.own x)) x (.ins C dx [])) Q E := by
  have nx : ∀ b o, H b = some o → b ≠ x := fun b o e z => by rw [z, hx] at e; cases e
  have nd : ∀ b o, H b = some o → b ≠ dx := fun b o e z => by rw [z, hdx] at e; cases e
  have s1 : Same H (upd (upd H dx (.own x)) x (.ins C dx [])) := fun b o e => by rw [upd_ne (nx b o e), upd_ne (nd b o e)]; exact e
  obtain ⟨kdx, kfs, _, _, _, _, i1, _⟩ := hk.get (K := K)
  refine ⟨x, dx, _, y, r, rfl, upd_same, hy.keep s1, .inr ⟨kp, ks, rfl, nx _ _ i1, hk.keep s1, kb, ?_⟩⟩
  rw [due]
  exact fun ys H' e s hh => k ys H' e (fun b o q => s b o (s1 b o q) (nx b o q)) hh
theorem scFirst : FnScope ["self", "years"] ["self", "years"] (defScope sHistory_first) := ⟨rfl, rfl, rfl, by decide +kernel, rfl, by decide +kernel, by decide +kernel⟩
theorem scLast : FnScope ["self", "years"] ["self", "years"] (defScope sHistory_last) := ⟨rfl, rfl, rfl, by decide +kernel, rfl, by decide +kernel, by decide +kernel⟩
theorem ok_first {f C CK CY fY gL : Addr} {fd fdY fdL : FuncData} (F : Fun K "first" "History.first" sHistory_first f fd) (HX : HC K C) (W : HasF P w K mg base "is_whole" 1 ["thing", "low", "high"] spWhole) (HO : HasF P w K mg base "history_of" 6 ["kinds", "years"] (spHistOf C CK))
    (OL : OwnM P w K mg base C "__len__" 1 ["self"] (spHLen C CK) gL fdL) (mL : mg "len" = none) (EY : BY P w K mg base CY fY fdY) : FnOk P w K mg base (L2.CX P w) 7 f fd ["self", "years"] (spCut2 C CK CY fst') := by
  obtain ⟨f1, fd1, W⟩ := W; obtain ⟨f2, fd2, HO⟩ := HO
  refine F.okX scFirst (fun vs H Q E h => ?_) (fun cdv A outer s H vs Q E hr h => ?_)
  · obtain ⟨⟨a, b, c, d, e, rfl, _⟩, _⟩ := h
    rfl
  · obtain ⟨⟨p, y, n, ks, ys, rfl, hk, kb, ky, k⟩, lz⟩ := h
    have lz := lz p y ks ys rfl hk
    have hr1 : Room 1 _ := hr.mono (by decide)
    have hr2 : Room 2 _ := hr.mono (by decide)
    refine ⟨_, (pss_cons (ps_if (pt_not (pt_val (pe_call W.G hr1 (by rfl) W.m W.kp W.b .nil pass0 (pa_cons (pv 1) (pa_cons pe_int (pa_cons (pe_callB (call_lenOwn OL.M.at_ OL.M.fn OL.raw hr2 pass0) (by rfl) mL PySem.boot_len (pa_cons (pv 0) pa_nil)) pa_nil)))))) (pss_one (ps_raise rfl (takes_of rfl rfl rfl rfl) (pmk_oex EY.E.T EY.E.iC EY.E.tI EY.E.G hr2 EY.E.b .nil pass0 (by rfl) EY.E.gC (pa_cons (pv 1) pa_nil)))) pss_nil)
    (pss_one (ps_ret (pe_call HO.G hr (by rfl) HO.m HO.kp HO.b .nil pass0 (pa_cons (pe_fld (pv 0) rfl) (pa_cons (pe_slice sl_tupA (pe_fld (pv 0) rfl) po_none (po_some (pv 1))) pa_nil)))))), ?_⟩
    obtain ⟨dx, fs, kp, yt, h1, h2, h3, h4, h5, h6⟩ := hk.ob
    refine ⟨_, rfl, _, rfl, p, dx, fs, rfl, h1, p, ks, ys, rfl, hk, _, rfl, by omega, by omega, ?_⟩
    refine ⟨y, n, 0, _, rfl, ky, _, rfl, ?_⟩
    rw [wholeN_V]
    cases e : wholeN y ys.length with
    | none =>
      rw [e] at k
      exact iteT ⟨_, rfl, fin1 EY.E.T EY.n1 fun d H2 hd s2 e2 => k d H2 hd s2 e2⟩
    | some m =>
      rw [e] at k
      obtain ⟨rfl, lm⟩ := wholeN_some e
      refine iteF ?_
      obtain ⟨xs, hx, px⟩ := h6.cut
      have lx := Paired.length px
      refine ⟨_, rfl, p, C, dx, fs, _, rfl, h1, HX.cl, HX.nK, h2, _, rfl, p, C, dx, fs, _, rfl, h1, HX.cl, HX.nY, h3, _, rfl, _, rfl, yt, xs, rfl, SqT.of hx, fun hw => ?_, fun hw t ht => ?_⟩
      · have em : m = ys.length := by
          have e2 : HT.sIx xs.length xs.length (some (m : Int)) = m := by
            simp [HT.sIx]
            rw [if_neg (by omega)]
            omega
          rw [e2] at hw
          omega
        refine ⟨kp, yt, ks, fst' m ys, rfl, h5, kb, ?_, fun q H' hq s hh => k q H' hq s hh⟩
        unfold fst'
        rw [List.take_of_length_le (by omega)]
        exact h6
      · have s1 : Same H (upd H t (.tup (cutV xs none (some (m : Int))))) := sameUpd (Same.refl _) ht
        refine ⟨kp, t, ks, fst' m ys, rfl, h5.keep s1, kb, ⟨t, _, rfl, upd_same, ?_⟩, fun q H' hq s hh => k q H' (s1.free hq) (s1.trans s) hh⟩
        rw [cut_take xs m (by omega)] at s1 ⊢
        exact pr_take (pr_imp px fun _ _ q => q.keep s1) m
theorem ok_last {f C CK CY fY gL : Addr} {fd fdY fdL : FuncData} (F : Fun K "last" "History.last" sHistory_last f fd) (HX : HC K C) (W : HasF P w K mg base "is_whole" 1 ["thing", "low", "high"] spWhole) (HO : HasF P w K mg base "history_of" 6 ["kinds", "years"] (spHistOf C CK)) (LO : HasF P w K mg base "_last_of" 1 ["years", "many"] spLastOf)
    (OL : OwnM P w K mg base C "__len__" 1 ["self"] (spHLen C CK) gL fdL) (mL : mg "len" = none) (EY : BY P w K mg base CY fY fdY) : FnOk P w K mg base (L2.CX P w) 7 f fd ["self", "years"] (spCut2 C CK CY lst') := by
  obtain ⟨f1, fd1, W⟩ := W; obtain ⟨f2, fd2, HO⟩ := HO; obtain ⟨f3, fd3, LO⟩ := LO
  refine F.okX scLast (fun vs H Q E h => ?_) (fun cdv A outer s H vs Q E hr h => ?_)
  · obtain ⟨⟨a, b, c, d, e, rfl, _⟩, _⟩ := h
    rfl
  · obtain ⟨⟨p, y, n, ks, ys, rfl, hk, kb, ky, k⟩, lz⟩ := h
    have lz := lz p y ks ys rfl hk
    have hr1 : Room 1 _ := hr.mono (by decide)
    have hr2 : Room 2 _ := hr.mono (by decide)
    refine ⟨_, (pss_cons (ps_if (pt_not (pt_val (pe_call W.G hr1 (by rfl) W.m W.kp W.b .nil pass0 (pa_cons (pv 1) (pa_cons pe_int (pa_cons (pe_callB (call_lenOwn OL.M.at_ OL.M.fn OL.raw hr2 pass0) (by rfl) mL PySem.boot_len (pa_cons (pv 0) pa_nil)) pa_nil)))))) (pss_one (ps_raise rfl (takes_of rfl rfl rfl rfl) (pmk_oex EY.E.T EY.E.iC EY.E.tI EY.E.G hr2 EY.E.b .nil pass0 (by rfl) EY.E.gC (pa_cons (pv 1) pa_nil)))) pss_nil)
    (pss_one (ps_ret (pe_call HO.G hr (by rfl) HO.m HO.kp HO.b .nil pass0 (pa_cons (pe_fld (pv 0) rfl) (pa_cons (pe_call LO.G hr1 (by rfl) LO.m LO.kp LO.b .nil pass0 (pa_cons (pe_fld (pv 0) rfl) (pa_cons (pv 1) pa_nil))) pa_nil)))))), ?_⟩
    obtain ⟨dx, fs, kp, yt, h1, h2, h3, h4, h5, h6⟩ := hk.ob
    refine ⟨_, rfl, _, rfl, p, dx, fs, rfl, h1, p, ks, ys, rfl, hk, _, rfl, by omega, by omega, ?_⟩
    refine ⟨y, n, 0, _, rfl, ky, _, rfl, ?_⟩
    rw [wholeN_V]
    cases e : wholeN y ys.length with
    | none =>
      rw [e] at k
      exact iteT ⟨_, rfl, fin1 EY.E.T EY.n1 fun d H2 hd s2 e2 => k d H2 hd s2 e2⟩
    | some m =>
      rw [e] at k
      obtain ⟨rfl, lm⟩ := wholeN_some e
      refine iteF ?_
      obtain ⟨xs, hx, px⟩ := h6.cut
      have lx := Paired.length px
      refine ⟨_, rfl, p, C, dx, fs, _, rfl, h1, HX.cl, HX.nK, h2, _, rfl, p, C, dx, fs, _, rfl, h1, HX.cl, HX.nY, h3, _, rfl, yt, xs, m, rfl, hx, by omega, fun t H1 s1 ht => ?_⟩
      refine ⟨kp, t, ks, lst' m ys, rfl, h5.keep s1, kb, ⟨t, _, rfl, ht, ?_⟩, fun q H' hq s hh => k q H' (s1.free hq) (s1.trans s) hh⟩
      unfold lst'
      rw [lx]
      exact pr_drop (pr_imp px fun _ _ q => q.keep s1) _
end
end Kx

set_option maxHeartbeats 4000000
namespace Kx
open PySem L2
theorem hid_new {a p D : Addr} {H : Hp} {o : HO} (hD : H D = none) : Same (hid a p H) (wo D (hid a p (upd H D o))) := fun c u e => by
  obtain ⟨e1, n1, n2⟩ := hid_get e
  have cD := ne_of_none e1 hD
  rw [wo_ne cD]
  exact hid_at (by rw [upd_ne cD]; exact e1) n1 n2
/-- years that were drawn: each deed one of the kinds by the persons -/
def GoodY (ks : List (Str × Int)) (ps : List Str) (ys : List (List (List Str))) : Prop := ys.length ≤ 8 ∧ ∀ y ∈ ys, y.length ≤ 4 ∧ ∀ d ∈ y, Made ks ps d
def spTold : Sp := fun vs H Q _ => ∃ (p q b c : Addr) (ks : List (Str × Int)) (ps : List Str), vs = [.ref p, .ref b, .ref c] ∧ Mat H p q b c ks ps ∧ ∀ (a : Addr) (ys : List (List (List Str))) (H' : Hp), Ys .lst (wo p H') (.ref a) ys → GoodY ks ps ys → H a = none → HandAt H' p q → Keep H H' p → Q (.ref a) H'
section
variable {P : Program} {w : World} {K : PySem.W.Frag} {mg : Str → Option Value} {base : Heap}
abbrev nTold : List Str := ["_law_hand_here", "_law_rows", "_law_persons_here", "_law_years", "_law_k", "_law_j"]
theorem scTold : FnScope nTold ["_law_hand_here", "_law_rows", "_law_persons_here"] (defScope sLToldYears) := ⟨rfl, rfl, rfl, by decide +kernel, rfl, by decide +kernel, by decide +kernel⟩
theorem ok_told {f : Addr} {fd : FuncData} (F : Fun K "_law_told_years" "_law_told_years" sLToldYears f fd) (m : mg "_law_told_years" = some (.ref f)) (T : Bl mg) (D : HasF P w K mg base "_law_draw" 2 ["_law_hand_here", "_law_many"] spDraw) (G : HasF P w K mg base "_law_made_deed" 4 ["_law_hand_here", "_law_rows", "_law_persons_here"] spMade) :
    HasF P w K mg base "_law_told_years" 5 ["_law_hand_here", "_law_rows", "_law_persons_here"] spTold := by
  refine ⟨f, fd, ?_, m, F.kp, F.binds fun _ _ _ _ _ _ us hl => match us, hl with | [_, _, _], _ => rfl⟩
  obtain ⟨f1, fd1, D⟩ := D; obtain ⟨f2, fd2, G⟩ := G
  refine F.ok scTold (fun vs H Q E h => ?_) (fun cdv A outer s H vs Q E hr h => ?_)
  · obtain ⟨a, b, c, d, e, f, rfl, _⟩ := h
    rfl
  · obtain ⟨p, q, b, c, ks, ps, rfl, M, k⟩ := h
    have hr2 : Room 2 _ := hr.mono (by decide)
    refine ⟨_, (pss_cons (ps_set (i := 3) scTold.nd rfl (Or.inl rfl) (pe_lst pa_nil))
    (C8.pss_cut (ps_for PassesOwn.never rfl (pi_range1 (by rfl) T.range (pa_cons (pe_call D.G hr2 (by rfl) D.m D.kp D.b .nil pass0 (pa_cons (pv 0) (pa_cons pe_int pa_nil))) pa_nil)) (pg_name (i := 4) scTold.nd rfl (.inl rfl))
        (pss_one (ps_expr (pe_bm PySem.F.plainAttrs_list PySem.F.slot_list_append PySem.F.type_list_append mt_append (pv 3) (pa_cons (pe_lc (own := [("_law_j", 5)]) (g := gName 5) (tt := tYes) (by rfl) scTold.nd (pi_range1 (by rfl) T.range (pa_cons (pe_call D.G hr2 (by rfl) D.m D.kp D.b .nil pass0 (pa_cons (pv 0) (pa_cons pe_int pa_nil))) pa_nil)) (blkOk_by (own := [("_law_j", 5)]) (N := nTold) (sc := defScope sLToldYears) (by decide +kernel))
          (fun _ _ _ _ _ => pg_name (i := 5) scTold.nd rfl (Or.inl rfl)) (fun _ _ _ _ _ => pts_nil) (fun _ _ _ _ _ => (pe_call G.G hr (by rfl) G.m G.kp G.b .nil pass0 (pa_cons (pv 0) (pa_cons (pv 1) (pa_cons (pv 2) pa_nil)))))) pa_nil)))))
    (pss_one (ps_ret (pv 3))))), ?_⟩
    refine ⟨Nat.zero_le _, fun a ha => ?_⟩
    have fr0 : Fr a p q [] H E0p (upd H a (.lst [])) := ⟨upd_same, M.hp.ap ha, M.hp.upd (M.hp.ap ha) (M.hp.aq ha), keepUpd Keep.refl ha, hid_E0, ha, M.hp.aq ha⟩
    refine ⟨fun σ H2 => ∃ (xs : List V) (ys : List (List (List Str))), σ[3]? = some (some (.ref a)) ∧ Fr a p q xs H E0p H2 ∧ Paired (Ds .lst (hid a p H2)) xs ys ∧ GoodY ks ps ys, ?_, ?_⟩
    · refine ⟨_, rfl, p, q, 9, rfl, fr0.hp, by decide, by decide, fun z H1 z0 z1 hp1 k1 => ?_⟩
      obtain ⟨fr1, _⟩ := fr0.draw k1 hp1
      refine ⟨_, rfl, by omega, by omega, for_range (n := z.toNat) (fun i σ H2 => ∃ (xs : List V) (ys : List (List (List Str))) (v4 v5 : Option V), σ = [some (.ref p), some (.ref b), some (.ref c), some (.ref a), v4, v5] ∧ Fr a p q xs H E0p H2 ∧ Paired (Ds .lst (hid a p H2)) xs ys ∧ ys.length = i ∧ ∀ y ∈ ys, y.length ≤ 4 ∧ ∀ d ∈ y, Made ks ps d)
        ⟨[], [], none, none, rfl, fr1, .nil, rfl, fun y hy => nomatch hy⟩ ?_ ?_⟩
      · rintro i σ H2 hi ⟨xs, ys, v4, v5, rfl, fr2, px, yl, gy⟩
        refine ⟨_, rfl, .inl ⟨rfl, _, SqL.of fr2.hb⟩, _, rfl, p, q, 5, rfl, fr2.hp, by decide, by decide, fun u H3 u0 u1 hp3 k3 => ?_⟩
        obtain ⟨fr3, s3⟩ := fr2.draw k3 hp3
        have px3 : Paired (Ds .lst (hid a p H3)) xs ys := pr_imp px fun _ _ h => h.keep s3
        refine ⟨_, rfl, by omega, by omega, fun L hL => lc_range (lo := 0) (n := u.toNat) (fun j Hj => ∃ (acc : List V) (ds : List (List Str)), Hj L = some (.lst acc) ∧ Paired (Ss .lst (wo L (hid a p Hj))) acc ds ∧ ds.length = j ∧ (∀ d ∈ ds, Made ks ps d) ∧ Fr a p q xs H E0p Hj ∧ Paired (Ds .lst (wo L (hid a p Hj))) xs ys) ?_ ?_ ?_⟩
        · obtain ⟨L0, La, Lp, Lq⟩ := fr3.free hL
          exact ⟨[], [], upd_same, .nil, rfl, fun d hd => (nomatch hd), fr3.put L0 rfl La Lp Lq, pr_imp px3 fun _ _ h => h.keep (hid_new hL)⟩
        · rintro j Hj hj ⟨acc, ds, hacc, pa, dl, md, frj, pxj⟩
          obtain ⟨L0, La, Lp, Lq⟩ := fr3.free hL
          refine ⟨rfl, ?_⟩
          refine ⟨_, rfl, _, rfl, _, rfl, p, q, b, c, ks, ps, rfl, M.keep frj.kp frj.hp, fun d zs H5 fr5 mz => ?_⟩
          obtain ⟨fr6, s6⟩ := frj.draw fr5.kp fr5.hp
          have hL5 : H5 L = some (.lst acc) := fr5.kp L _ hacc Lp
          have dL : d ≠ L := fun e => by have z := fr5.b0; rw [e, hacc] at z; cases z
          have da : d ≠ a := fun e => by have z := fr5.b0; rw [e, frj.hb] at z; cases z
          have sw : Same (wo L (hid a p Hj)) (wo L (hid a p (upd H5 L (.lst (acc ++ [.ref d]))))) := (wo_mono s6).trans wo_put
          refine ⟨acc, hL5, small1000 (by rw [Paired.length pa]; omega), acc ++ [.ref d], ds ++ [zs], upd_same, pr_app (pr_imp pa fun _ _ h => h.keep sw) (.cons ⟨d, rfl, ?_⟩ .nil), by simp [dl], fun e he => ?_, fr6.put L0 rfl La Lp Lq, pr_imp pxj fun _ _ h => h.keep sw⟩
          · rw [wo_ne dL]
            exact hid_at (by rw [upd_ne dL]; exact fr5.hb) da fr5.bp
          · rcases List.mem_append.mp he with h | h
            · exact md e h
            · rw [List.mem_singleton.mp h]
              exact mz
        · rintro Hj ⟨acc, ds, hacc, pa, dl, md, frj, pxj⟩
          obtain ⟨L0, La, Lp, Lq⟩ := fr3.free hL
          refine ⟨a, _, _, rfl, rfl, frj.hb, small1000 (by rw [Paired.length px]; omega), xs ++ [.ref L], ys ++ [ds], _, _, rfl, ⟨upd_same, frj.bp, frj.hp.upd frj.bp frj.bq, keepUpd frj.kp frj.b0, hid_E0, frj.b0, frj.bq⟩, pr_app (pr_imp pxj fun _ _ h => (h.keep wo_same).keep hid_b) (.cons ⟨L, acc, rfl, hid_at (by rw [upd_ne La]; exact hacc) La Lp, pr_imp pa fun _ _ h => (h.keep wo_same).keep hid_b⟩ .nil), by simp [yl], fun y hy => ?_⟩
          rcases List.mem_append.mp hy with h | h
          · exact gy y h
          · rw [List.mem_singleton.mp h]
            exact ⟨by omega, md⟩
      · rintro σ H2 ⟨xs, ys, v4, v5, rfl, fr2, px, yl, gy⟩
        exact ⟨xs, ys, rfl, fr2, px, by omega, gy⟩
    rintro σ H2 ⟨xs, ys, e3, fr2, px, gy⟩
    exact ⟨_, e3, k a ys H2 ⟨a, xs, rfl, wo_at fr2.hb fr2.bp, pr_imp px fun _ _ h => h.keep hid_wo⟩ gy ha fr2.hp fr2.kp⟩
end
end Kx

set_option maxHeartbeats 4000000
namespace Kx
open PySem PySem.Spec PyProof.Rows L2
section
variable {X : Cx}
/-- two lists, of other lengths or both empty -/
def rEqL (K : PySem.W.Frag) : R2 := fun x y H Q => ∃ a b xs ys, x = .ref a ∧ y = .ref b ∧ SqL K H a xs ∧ SqL K H b ys ∧ ((xs.length ≠ ys.length ∧ Q (.bl false) H) ∨ (xs = [] ∧ ys = [] ∧ Q (.bl true) H))
theorem op_eqL (hu : X.A.units + 64 < cLine) : OpR X (compareOp .Eq) (rEqL X.K) := by
  intro pins s σ H x y v u Q I rx ry h
  obtain ⟨a, b, xs, ys, rfl, rfl, ha, hb, h⟩ := h
  obtain rfl : v = Value.ref a := rx
  obtain rfl : u = Value.ref b := ry
  obtain ⟨its, rv, pl, hz⟩ := I.list ha
  obtain ⟨ius, ru, pu, hw⟩ := I.list hb
  have l1 := rv.length
  have l2 := ru.length
  rcases h with ⟨ne, q⟩ | ⟨rfl, rfl, q⟩
  · exact SeqAt.RcAt.lists_lengths pl.isList pu.isList (by simp only [List.size_toArray, bne_iff_ne, ne_eq]; omega) (by omega) X.prog X.w X.xe _ ⟨.bl false, H, I, rfl, q⟩
  · have e := SeqAt.RcAt.lists (e := fun _ => true) (A := X.A) pl.isList pu.isList (by simp only [List.size_toArray]; omega) (by omega) fun j h1 h2 => by
      simp only [List.size_toArray] at h1
      rw [← l1] at h1
      exact absurd h1 (Nat.not_lt_zero j)
    refine e X.prog X.w X.xe _ ⟨.bl true, H, I, ?_, q⟩
    show Value.bool _ = Value.bool true
    simp
end
theorem wo_comm {a b : Addr} {H : Hp} : Same (wo a (wo b H)) (wo b (wo a H)) := fun c u e => by
  obtain ⟨e1, n1⟩ := wo_get e
  obtain ⟨e2, n2⟩ := wo_get e1
  exact wo_at (wo_at e2 n1) n2
theorem Ss.dd {H : Hp} {x : V} {zs : List Str} (h : Ss .lst H x zs) (l : zs.length ≤ 10) (f : ∀ z ∈ zs, Fine z) : Dd H 1 x (.list (zs.map PyData.str)) := by
  obtain ⟨a, rfl, h⟩ := h
  exact strs_dd h l f
theorem Ds.dds {H : Hp} {xs : List V} {ds : List (List Str)} (h : Paired (Ss .lst H) xs ds) (f : ∀ d ∈ ds, d.length ≤ 10 ∧ ∀ z ∈ d, Fine z) : Dds H 1 xs (ds.map fun d => .list (d.map PyData.str)) := by
  induction h with
  | nil => exact .nil
  | cons h t ih => exact .cons (h.dd (f _ (.head _)).1 (f _ (.head _)).2) (ih fun d m => f d (.tail _ m))
def lD (y : List (List Str)) : PyData := .list (y.map fun d => .list (d.map PyData.str))
theorem Ds.dd {H : Hp} {x : V} {ds : List (List Str)} (h : Ds .lst H x ds) (l : ds.length ≤ 10) (f : ∀ d ∈ ds, d.length ≤ 10 ∧ ∀ z ∈ d, Fine z) : Dd H 2 x (lD ds) := by
  obtain ⟨a, xs, rfl, h, p⟩ := h
  exact Dd.lstP h (by rw [Paired.length p]; exact l) (Ds.dds p f)
theorem GoodY.fine {ks : List (Str × Int)} {ps : List Str} {ys : List (List (List Str))} (g : GoodY ks ps ys) (gk : GoodK ks) (l : ∀ y ∈ ps, Lb y) : ∀ y ∈ ys, y.length ≤ 4 ∧ ∀ d ∈ y, 1 ≤ d.length ∧ d.length ≤ 3 ∧ ∀ z ∈ d, Lb z := fun y hy => ⟨(g.2 y hy).1, fun d hd => ((g.2 y hy).2 d hd).all gk l⟩
theorem Dds.cat {H : Hp} {n : Nat} {xs zs : List V} {ds es : List PyData} (h : Dds H n xs ds) (k : Dds H n zs es) : Dds H n (xs ++ zs) (ds ++ es) := pr_app h k
theorem Dds.cut {H : Hp} {n : Nat} {xs : List V} {ds : List PyData} (h : Dds H n xs ds) (lo hi : Option Int) : ∃ es, Dds H n (cutV xs lo hi) es := by
  unfold cutV
  exact ⟨_, pr_take (pr_drop h _) _⟩
theorem cut_le (xs : List V) (lo hi : Option Int) : (cutV xs lo hi).length ≤ xs.length := by
  unfold cutV
  rw [List.length_take, List.length_drop]
  omega
theorem cut_two (xs : List V) (m : Nat) (h : m ≤ xs.length) : (cutV xs none (some (m : Int))).length + (cutV xs (some (m : Int)) none).length = xs.length := by
  rw [cut_take xs m h, cut_drop xs m h, List.length_take, List.length_drop]
  omega
theorem Fr.old {b p q : Addr} {ys : List V} {H0 Hs H : Hp} (f : Fr b p q ys H0 Hs H) : Same (wo p H0) (hid b p H) := fun c u e => by
  obtain ⟨h, n⟩ := wo_get e
  exact hid_at (f.kp c u h n) (fun z => by have q := f.b0; rw [← z, h] at q; cases q) n
theorem dds_ex {H : Hp} {n : Nat} : ∀ {xs : List V}, (∀ (i : Nat) (y : V), xs[i]? = some y → ∃ d, Dd H n y d) → ∃ ds, Dds H n xs ds
  | [], _ => ⟨[], .nil⟩
  | x :: xs, h => by
    obtain ⟨d, hd⟩ := h 0 x rfl
    obtain ⟨ds, hs⟩ := dds_ex (xs := xs) fun i y e => h (i + 1) y e
    exact ⟨d :: ds, .cons hd hs⟩
end Kx

set_option maxHeartbeats 4000000
namespace Kx
open PySem L2
theorem call_isiTK {X : Cx} {K : PySem.W.Frag} (h : X.K = K) : CallR X (.builtin "isinstance") (rIsiT K) := by
  subst h
  exact call_isiT
/-- where and why, or None -/
def TripIs (H : Hp) (x : V) : Option (Nat × Nat × Str) → Prop
  | none => x = .non
  | some (i, j, w) => ∃ a, x = .ref a ∧ H a = some (.tup [.int (i : Nat), .int (j : Nat), .str w])
end Kx

set_option maxHeartbeats 4000000
namespace Kx
open PySem L2
theorem pe_fldK {X : Cx} {K : PySem.W.Frag} {e : Expr} {ta : TE} {f : Str} {pos : Pos} (h : X.K = K) (he : PE X e ta) (hb : attributeBase e f X.env (eval e X.env) = eval e X.env) : PE X (.Attribute e f pos) (tFld K ta f) := by
  subst h
  exact pe_fld he hb
def cutOf (b : Bool) : Nat → List (List (List Str)) → List (List (List Str)) := if b = true then fst' else lst'
end Kx

set_option maxHeartbeats 8000000
namespace Kx
open PySem L2
def rsOf (ks : List (Str × Int)) : List (Option (V × V)) := ks.map fun q => some (.str q.1, .int q.2)
theorem scan_none : ∀ {ks : List (Str × Int)} {names : List Str} {i : Nat}, (∀ q ∈ ks, (isLab q.1 = true ∧ ¬ q.1 = Str.ofString "year" ∧ 0 ≤ q.2 ∧ q.2 ≤ 2) ∧ ¬ q.1 ∈ names) → (ks.map (·.1)).Nodup → scanK names i (rsOf ks) = none
  | [], _, _, _, _ => rfl
  | q :: ks, names, i, h, nd => by
    obtain ⟨⟨h1, h2, h3, h4⟩, h5⟩ := h q (.head _)
    rw [List.map_cons, List.nodup_cons] at nd
    have w : rowWord names (some (.str q.1, .int q.2)) = none := by
      show (if isLab q.1 = true then (if q.1 = Str.ofString "year" then some (Str.ofString "year") else if q.1 ∈ names then some (Str.ofString "double") else if wholeV (.int q.2) 0 2 = true then none else some (Str.ofString "arity")) else some (Str.ofString "label")) = none
      rw [if_pos h1, if_neg h2, if_neg h5, if_pos (by simp [wholeV, h3, h4])]
    show (match rowWord names (some (.str q.1, .int q.2)) with | some w => some (i, w) | none => scanK (names ++ [q.1]) (i + 1) (rsOf ks)) = none
    rw [w]
    refine scan_none (fun r hr => ⟨(h r (.tail _ hr)).1, fun hm => ?_⟩) nd.2
    rcases List.mem_append.mp hm with e | e
    · exact (h r (.tail _ hr)).2 e
    · exact nd.1 (List.mem_map.mpr ⟨r, hr, List.mem_singleton.mp e⟩)
theorem good_due {ks : List (Str × Int)} (g : GoodK ks) : rowsDue (some (rsOf ks)) = none := by
  show (if 1 ≤ (rsOf ks).length ∧ (rsOf ks).length ≤ 6 then scanK [] 0 (rsOf ks) else some (0, Str.ofString "rows")) = none
  rw [if_pos (by simp [rsOf]; exact ⟨g.lo, g.hi⟩)]
  exact scan_none (fun q hq => ⟨g.each q hq, by simp⟩) g.nd
theorem rsOf_at {ks : List (Str × Int)} {i : Nat} {q : Str × Int} (h : ks[i]? = some q) : (rsOf ks)[i]? = some (some (V.str q.1, V.int q.2)) := by
  unfold rsOf
  rw [List.getElem?_map, h]
  rfl
theorem rows_of {H : Hp} {xs : List V} {ks : List (Str × Int)} (h : ItemsAt H xs ks) (g : GoodK ks) : AllR H xs (rsOf ks) := by
  refine ⟨by rw [h.1]; simp [rsOf], fun i x r e1 e2 => ?_⟩
  have lt : i < ks.length := by have := (List.getElem?_eq_some_iff.mp e1).1; have := h.1; omega
  have hq : ks[i]? = some ks[i] := List.getElem?_eq_getElem lt
  rw [rsOf_at hq] at e2
  cases e2
  obtain ⟨lab, _, _, _⟩ := g.each _ (List.getElem_mem lt)
  have tn : Thing H (V.str ks[i].1) "str" := ⟨.str _, fun z e => by cases e; exact ⟨(lab_ok lab).1, by have := (lab_ok lab).2; omega⟩⟩
  have ta : Thing H (V.int ks[i].2) "int" := ⟨.int _, fun z e => nomatch e⟩
  obtain ⟨t, rfl, h | h⟩ := h.2 i x _ e1 hq
  · exact .lst h tn ta
  · exact .tup h tn ta
theorem pr_rsOf (ks : List (Str × Int)) : (rsOf ks).map prOf = vv ks := by
  unfold rsOf vv
  rw [List.map_map]
  rfl
theorem KindsAt.wo {C : Addr} {H : Hp} {x p q : Addr} {ps : List (Str × V)} (k : KindsAt C H x ps) (hp : HandAt H p q) : KindsAt C (wo p H) x ps := by
  obtain ⟨cs, a, b, c, ha, hb⟩ := hp
  obtain ⟨dx, fs, r, n, d, ts, h1, h2, h3, h4, h5, h6, h7, h8, h9, h10⟩ := k.ob
  have ne : ∀ {u : Addr} {o : HO}, H u = some o → (∀ xs, o ≠ .lst xs) → u ≠ p := fun h hn e => by rw [e, ha] at h; exact hn _ (Option.some.inj h).symm
  exact ⟨dx, fs, r, n, d, ts, wo_at h1 (ne h1 fun _ z => nomatch z), h2, h3, h4, h5, wo_at h6 (ne h6 fun _ z => nomatch z), h7, fun i t q e1 e2 => wo_at (h8 i t q e1 e2) (ne (h8 i t q e1 e2) fun _ z => nomatch z), wo_at h9 (ne h9 fun _ z => nomatch z), wo_at h10 (ne h10 fun _ z => nomatch z)⟩
def rot {α : Type} : List α → List α
  | [] => []
  | k :: r => r ++ [k]
theorem cutA (x : V) (xs : List V) : cutV (x :: xs) none (some 1) = [x] := by
  unfold cutV
  have e1 : HT.sIx (x :: xs).length (x :: xs).length (some 1) = 1 := by
    simp [HT.sIx]
    try omega
  rw [e1]
  simp [HT.sIx]
theorem rot_good {ks : List (Str × Int)} (g : GoodK ks) : GoodK (rot ks) := by
  cases ks with
  | nil => exact g
  | cons k r =>
    refine ⟨by simp [rot], by have := g.hi; simp [rot] at *; omega, fun q hq => g.each q ?_, ?_⟩
    · rcases List.mem_append.mp hq with e | e
      · exact .tail _ e
      · rw [List.mem_singleton.mp e]; exact .head _
    · have nd := g.nd
      rw [List.map_cons] at nd
      have pm : List.Perm ((r ++ [k]).map (·.1)) (k.1 :: r.map (·.1)) := by
        rw [List.map_append]
        exact List.perm_append_comm
      exact pm.nodup_iff.mpr nd
theorem rot_items {H : Hp} {x : V} {xs : List V} {ks : List (Str × Int)} (h : ItemsAt H (x :: xs) ks) : ItemsAt H (xs ++ [x]) (rot ks) := by
  cases ks with
  | nil => cases h.1
  | cons k r => exact ItemsAt.add ⟨Nat.succ.inj h.1, fun i y q e1 e2 => h.2 (i + 1) y q e1 e2⟩ (h.2 0 x k rfl rfl)

/-! the words for deeds, and where they stand -/
theorem deedWord_fine {ks : List (Str × Int)} {r : Option (List V)} {w : Str} (h : deedWord ks r = some w) : Fine w := by
  have p1 : Fine (Str.ofString "deed") := ⟨by decide +kernel, by decide +kernel⟩
  have p2 : Fine (Str.ofString "kind") := ⟨by decide +kernel, by decide +kernel⟩
  have p3 : Fine (Str.ofString "person") := ⟨by decide +kernel, by decide +kernel⟩
  have p4 : Fine (Str.ofString "arity") := ⟨by decide +kernel, by decide +kernel⟩
  cases r with
  | none => cases h; exact p1
  | some l =>
    cases l with
    | nil => cases h; exact p1
    | cons x xs =>
      have h : (match kNum ks x with | none => some (Str.ofString "kind") | some k => if ((xs.length : Nat) : Int) = k then (if xs.all labV then none else some (Str.ofString "person")) else some (Str.ofString "arity")) = some w := h
      cases e : kNum ks x with
      | none => rw [e] at h; cases h; exact p2
      | some k =>
        rw [e] at h
        have h : (if ((xs.length : Nat) : Int) = k then (if xs.all labV then none else some (Str.ofString "person")) else some (Str.ofString "arity")) = some w := h
        split at h
        · split at h
          · cases h
          · cases h; exact p3
        · cases h; exact p4
theorem scanD_fine {ks : List (Str × Int)} : ∀ {rs : List (Option (List V))} {n j : Nat} {w : Str}, scanD ks n rs = some (j, w) → Fine w ∧ j < n + rs.length
  | [], _, _, _, h => by cases h
  | r :: rs, n, j, w, h => by
    have h : (match deedWord ks r with | some w => some (n, w) | none => scanD ks (n + 1) rs) = some (j, w) := h
    cases e : deedWord ks r with
    | some w' =>
      rw [e] at h
      cases h
      exact ⟨deedWord_fine e, by simp⟩
    | none =>
      rw [e] at h
      obtain ⟨h1, h2⟩ := scanD_fine h
      exact ⟨h1, by simp; omega⟩
theorem yearWord_fine {ks : List (Str × Int)} {r : Option (List (Option (List V)))} {j : Nat} {w : Str} (l : lenY r ≤ 2000000) (h : yearWord ks r = some (j, w)) : Fine w ∧ j ≤ 2000000 := by
  cases r with
  | none => cases h; exact ⟨⟨by decide +kernel, by decide +kernel⟩, by decide⟩
  | some rs =>
    obtain ⟨a, b⟩ := scanD_fine (rs := rs) h
    have l : rs.length ≤ 2000000 := l
    exact ⟨a, by omega⟩
theorem scanY_fine {ks : List (Str × Int)} : ∀ {rs : List (Option (List (Option (List V))))} {n i j : Nat} {w : Str}, (∀ r ∈ rs, lenY r ≤ 2000000) → scanY ks n rs = some (i, j, w) → Fine w ∧ i < n + rs.length ∧ j ≤ 2000000
  | [], _, _, _, _, _, h => by cases h
  | r :: rs, n, i, j, w, l, h => by
    have h : (match yearWord ks r with | some (i, w) => some (n, i, w) | none => scanY ks (n + 1) rs) = some (i, j, w) := h
    cases e : yearWord ks r with
    | some jw =>
      obtain ⟨j', w'⟩ := jw
      rw [e] at h
      cases h
      obtain ⟨a, b⟩ := yearWord_fine (l r (.head _)) e
      exact ⟨a, by simp, b⟩
    | none =>
      rw [e] at h
      obtain ⟨h1, h2, h3⟩ := scanY_fine (fun r m => l r (.tail _ m)) h
      exact ⟨h1, by simp; omega, h3⟩
theorem YearsIs.few {K : PySem.W.Frag} {H : Hp} {y : V} {r : Option (List (Option (List (Option (List V)))))} (h : YearsIs K H y r) {ks : List (Str × Int)} {i j : Nat} {w : Str} (d : yearsDue ks r = some (i, j, w)) : Fine w ∧ i ≤ 2000000 ∧ j ≤ 2000000 := by
  cases h with
  | oth h l => cases d; exact ⟨⟨by decide +kernel, by decide +kernel⟩, by decide, by decide⟩
  | seq h a l =>
    rename_i b xs rs
    have d : (if tooMany rs = true then some (0, 0, Str.ofString "many") else scanY ks 0 rs) = some (i, j, w) := d
    split at d
    · cases d; exact ⟨⟨by decide +kernel, by decide +kernel⟩, by decide, by decide⟩
    · have lx := Paired.length a
      obtain ⟨h1, h2, h3⟩ := scanY_fine (fun r hr => by
        obtain ⟨m, hm⟩ := List.mem_iff_getElem?.mp hr
        have lt : m < xs.length := by rw [lx]; exact (List.getElem?_eq_some_iff.mp hm).1
        obtain ⟨r', hr', q⟩ := pr_get a (List.getElem?_eq_getElem lt)
        rw [hm] at hr'
        cases hr'
        generalize xs[m] = v at q
        cases q with
        | oth h l => exact Nat.zero_le _
        | seq h a l =>
          have e := Paired.length a
          unfold lenY
          dsimp only
          omega) d
      exact ⟨h1, by omega, h3⟩
def tripD : Option (Nat × Nat × Str) → PyData
  | none => .none
  | some (i, j, w) => .tuple [.int (i : Nat), .int (j : Nat), .str w]
theorem TripIs.dd {H : Hp} {x : V} {t : Option (Nat × Nat × Str)} (h : TripIs H x t) (f : ∀ i j w, t = some (i, j, w) → Fine w ∧ i ≤ 2000000 ∧ j ≤ 2000000) : Dd H 1 x (tripD t) := by
  cases t with
  | none => cases h; exact .non
  | some q =>
    obtain ⟨i, j, w⟩ := q
    obtain ⟨a, rfl, h⟩ := h
    obtain ⟨f1, f2, f3⟩ := f i j w rfl
    exact Dd.tupP h (by show 3 ≤ 10; decide) (.cons (.int _ (by omega)) (.cons (.int _ (by omega)) (.cons (.str _ f1) .nil)))
/-! what was drawn, as years -/
theorem Dd.year {K : PySem.W.Frag} {H : Hp} {n : Nat} {y : V} {d : PyData} (h : Dd H n y d) : ∃ r, YearIs K H y r := by
  have all : ∀ {m : Nat} {xs : List V} {ds : List PyData}, xs.length = ds.length → (∀ (i : Nat) (x : V) (d : PyData), xs[i]? = some x → ds[i]? = some d → Dd H m x d) → ∃ rs, Paired (DeedIs H) xs rs := by
    intro m xs
    induction xs with
    | nil => intro ds _ _; exact ⟨[], .nil⟩
    | cons x xs ih =>
      intro ds e f
      cases ds with
      | nil => cases e
      | cons d ds =>
        obtain ⟨r, hr⟩ := (f 0 x d rfl rfl).deed
        obtain ⟨rs, hrs⟩ := ih (Nat.succ.inj e) fun i x d e1 e2 => f (i + 1) x d e1 e2
        exact ⟨r :: rs, .cons hr hrs⟩
  cases h with
  | non => exact ⟨_, .oth .non rfl⟩
  | bl b => exact ⟨_, .oth (.bl b) rfl⟩
  | int i h => exact ⟨_, .oth (.int i) rfl⟩
  | str z h => exact ⟨_, .oth (.str z) rfl⟩
  | lst h l e f =>
    obtain ⟨rs, q⟩ := all e f
    exact ⟨_, .seq (.lst h) q (by omega)⟩
  | tup h l e f =>
    obtain ⟨rs, q⟩ := all e f
    exact ⟨_, .seq (.tup h) q (by omega)⟩
  | dct h hz hv => exact ⟨_, .oth (.dct _ _ h) rfl⟩
theorem dds_years {K : PySem.W.Frag} {H : Hp} {n : Nat} {xs : List V} {ds : List PyData} (h : Dds H n xs ds) : ∃ rs, Paired (YearIs K H) xs rs := by
  induction h with
  | nil => exact ⟨[], .nil⟩
  | cons h t ih =>
    obtain ⟨r, hr⟩ := h.year (K := K)
    obtain ⟨rs, hrs⟩ := ih
    exact ⟨r :: rs, .cons hr hrs⟩
theorem yR_inj : ∀ {ys zs : List (List (List Str))}, yR ys = yR zs → ys = zs := by
  have inj : ∀ {α β : Type} {f : α → β}, (∀ a b, f a = f b → a = b) → ∀ {xs ys : List α}, xs.map f = ys.map f → xs = ys := by
    intro α β f hf xs
    induction xs with
    | nil => intro ys e; cases ys with | nil => rfl | cons y ys => cases e
    | cons x xs ih =>
      intro ys e
      cases ys with
      | nil => cases e
      | cons y ys =>
        rw [List.map_cons, List.map_cons] at e
        injection e with e1 e2
        rw [hf _ _ e1, ih e2]
  intro ys zs h
  refine inj (fun a b e => ?_) h
  exact inj (fun a b e => inj (fun a b e => V.str.inj e) (Option.some.inj e)) (Option.some.inj e)
/-- lists of such that fit -/
structure FewY (ys : List (List (List Str))) : Prop where
  n : ys.length ≤ 100
  each : ∀ y ∈ ys, y.length ≤ 100 ∧ ∀ d ∈ y, d.length ≤ 100 ∧ ∀ z ∈ d, Fine z
theorem str_thing {H : Hp} {z : Str} (f : Fine z) : Thing H (.str z) "str" := ⟨.str z, fun y e => by cases e; exact ⟨f.1, Nat.le_trans f.2 (by decide)⟩⟩
theorem strs_things {H : Hp} {d : List Str} (f : ∀ z ∈ d, Fine z) : ∀ x ∈ d.map V.str, ∃ n, Thing H x n := fun x hx => by
  obtain ⟨z, hz, rfl⟩ := List.mem_map.mp hx
  exact ⟨_, str_thing (f z hz)⟩
def IsMk (mk : List V → HO) : Prop := mk = .lst ∨ mk = .tup
theorem IsMk.seq {mk : List V → HO} (h : IsMk mk) {K : PySem.W.Frag} {H : Hp} {a : Addr} {xs : List V} (e : H a = some (mk xs)) : IsSeq K H a xs := by
  rcases h with rfl | rfl
  · exact .lst e
  · exact .tup e
theorem years_of {K : PySem.W.Frag} {H : Hp} {mk : List V → HO} (hm : IsMk mk) : ∀ {xs : List V} {ys : List (List (List Str))}, Paired (Ds mk H) xs ys → (∀ y ∈ ys, y.length ≤ 100 ∧ ∀ d ∈ y, d.length ≤ 100 ∧ ∀ z ∈ d, Fine z) → Paired (YearIs K H) xs (yR ys) := by
  intro xs ys h
  induction h with
  | nil => intro _; exact .nil
  | cons h t ih =>
    rename_i x y xs ys
    intro f
    refine .cons ?_ (ih fun y m => f y (.tail _ m))
    obtain ⟨a, zs, rfl, ha, pz⟩ := h
    obtain ⟨f1, f2⟩ := f y (.head _)
    refine .seq (hm.seq ha) ?_ (by rw [Paired.length pz]; omega)
    clear ih f f1 ha t
    induction pz with
    | nil => exact .nil
    | cons h t ih =>
      rename_i z d zs ds
      refine .cons ?_ (ih fun d m => f2 d (.tail _ m))
      obtain ⟨b, rfl, hb⟩ := h
      obtain ⟨g1, g2⟩ := f2 d (.head _)
      rcases hm with rfl | rfl
      · exact .lst hb (strs_things g2) (by rw [List.length_map]; exact g1)
      · exact .tup hb (strs_things g2) (by rw [List.length_map]; exact g1)
theorem Ys.years {K : PySem.W.Frag} {H : Hp} {mk : List V → HO} (hm : IsMk mk) {x : V} {ys : List (List (List Str))} (h : Ys mk H x ys) (f : FewY ys) : YearsIs K H x (some (yR ys)) := by
  obtain ⟨a, xs, rfl, ha, p⟩ := h
  exact .seq (hm.seq ha) (years_of hm p f.each) (by rw [Paired.length p]; have := f.n; omega)
theorem GoodY.few {ks : List (Str × Int)} {ps : List Str} {ys : List (List (List Str))} (g : GoodY ks ps ys) (gk : GoodK ks) (l : ∀ y ∈ ps, Lb y) : FewY ys := by
  refine ⟨by have := g.1; omega, fun y hy => ?_⟩
  obtain ⟨h1, h2⟩ := g.fine gk l y hy
  exact ⟨by omega, fun d hd => ⟨by have := (h2 d hd).2.1; omega, fun z hz => ((h2 d hd).2.2 z hz).fine⟩⟩
theorem count_few : ∀ {ys : List (List (List Str))} {n : Nat}, (∀ y ∈ ys, y.length ≤ n) → countD (yR ys) ≤ ys.length * n
  | [], n, _ => by simp [countD, yR]
  | y :: ys, n, h => by
    have ih := count_few (ys := ys) fun y m => h y (.tail _ m)
    have h1 := h y (.head _)
    have e : countD (yR (y :: ys)) = y.length + countD (yR ys) := by simp [countD, yR, lenY, dR]
    rw [e, List.length_cons, Nat.add_mul]
    omega
theorem due_none {ks : List (Str × Int)} {ys : List (List (List Str))} (f : FewY ys) (h : ∀ y ∈ ys, ∀ d ∈ y, deedWord ks (some (d.map V.str)) = none) : yearsDue ks (some (yR ys)) = none := by
  have c := count_few (n := 100) fun y hy => (f.each y hy).1
  have n := f.n
  have ln : (yR ys).length = ys.length := by simp [yR]
  have c2 : ys.length * 100 ≤ 10000 := by omega
  have tm : tooMany (yR ys) = false := by
    unfold tooMany
    rw [decide_eq_false (show ¬ 1000000 < (yR ys).length by omega), decide_eq_false (show ¬ 1000000 < countD (yR ys) by omega)]
    rfl
  have e : yearsDue ks (some (yR ys)) = (if tooMany (yR ys) = true then some (0, 0, Str.ofString "many") else scanY ks 0 (yR ys)) := rfl
  rw [e, tm, if_neg Bool.false_ne_true]
  clear e tm c2 ln n c f
  have go : ∀ {ys : List (List (List Str))} {i : Nat}, (∀ y ∈ ys, ∀ d ∈ y, deedWord ks (some (d.map V.str)) = none) → scanY ks i (yR ys) = none := by
    intro ys
    induction ys with
    | nil => intro i _; rfl
    | cons y ys ih =>
      intro i h
      have yw : yearWord ks (some (dR y)) = none := by
        show scanD ks 0 (dR y) = none
        have hy := h y (.head _)
        clear h ih
        generalize 0 = j
        induction y generalizing j with
        | nil => rfl
        | cons d y ih =>
          show (match deedWord ks (some (d.map V.str)) with | some w => some (j, w) | none => scanD ks (j + 1) (dR y)) = none
          rw [hy d (.head _)]
          exact ih (fun d m => hy d (.tail _ m)) (j + 1)
      show (match yearWord ks (some (dR y)) with | some (i', w) => some (i, i', w) | none => scanY ks (i + 1) (yR ys)) = none
      rw [yw]
      exact ih fun y m => h y (.tail _ m)
  exact go h
theorem GoodY.due {ks : List (Str × Int)} {ps : List Str} {ys : List (List (List Str))} (g : GoodY ks ps ys) (gk : GoodK ks) (l : ∀ y ∈ ps, Lb y) : yearsDue ks (some (yR ys)) = none :=
  due_none (g.few gk l) fun y hy d hd => ((g.2 y hy).2 d hd).due gk l
theorem Made.rot {ks : List (Str × Int)} {ps zs : List Str} (m : Made ks ps zs) : Made (rot ks) ps zs := by
  obtain ⟨r, hr, q⟩ := m
  refine ⟨r, ?_, q⟩
  cases ks with
  | nil => cases hr
  | cons k ks =>
    rcases List.mem_cons.mp hr with e | e
    · exact List.mem_append_right _ (by rw [e]; exact List.mem_singleton.mpr rfl)
    · exact List.mem_append_left _ e
theorem GoodY.rot {ks : List (Str × Int)} {ps : List Str} {ys : List (List (List Str))} (g : GoodY ks ps ys) : GoodY (Kx.rot ks) ps ys := ⟨g.1, fun y hy => ⟨(g.2 y hy).1, fun d hd => ((g.2 y hy).2 d hd).rot⟩⟩
theorem GoodK.kb {ks : List (Str × Int)} (g : GoodK ks) : kbOk ks := fun q hq => ⟨(g.each q hq).2.2.1, (g.each q hq).2.2.2⟩
theorem GoodK.ok {ks : List (Str × Int)} (g : GoodK ks) : OkK ks := fun q hq => (lab_ok (g.each q hq).1).1
theorem FewY.ok {ys : List (List (List Str))} (f : FewY ys) : OkY ys := fun y hy d hd z hz => (((f.each y hy).2 d hd).2 z hz).1
end Kx

set_option maxHeartbeats 16000000
namespace Kx
open PySem L2
theorem pi_seqK {X : Cx} {K : PySem.W.Frag} (h : X.K = K) {tg l : Expr} {tl : TE} (hl : PE X l tl) : PI X tg l (iSeq K tl) := by
  subst h
  exact pi_seq hl
abbrev E0x : XK := fun _ _ _ => False
theorem Ys.few {H : Hp} {mk : List V → HO} {x : Addr} {ys : List (List (List Str))} (h : Ys mk H (.ref x) ys) : ∃ xs, H x = some (mk xs) ∧ Paired (Ds mk H) xs ys := by
  obtain ⟨a, xs, e, h1, h2⟩ := h
  cases e
  exact ⟨xs, h1, h2⟩
/-- what stands all the time: the hand, rows, persons, kinds, good years -/
structure LawC (CK : Addr) (H : Hp) (p q b c kp g : Addr) (ks : List (Str × Int)) (ps : List Str) (ys : List (List (List Str))) : Prop where
  M : Mat H p q b c ks ps
  kd : KindsAt CK (wo p H) kp (vv ks)
  yg : Ys .lst (wo p H) (.ref g) ys
theorem LawC.keep {CK p q b c kp g : Addr} {H H' : Hp} {ks : List (Str × Int)} {ps : List Str} {ys : List (List (List Str))} (l : LawC CK H p q b c kp g ks ps ys) (k : Keep H H' p) (hp : HandAt H' p q) : LawC CK H' p q b c kp g ks ps ys :=
  ⟨l.M.keep k hp, l.kd.keep (wo_keep k), l.yg.keep (wo_keep k)⟩
theorem LawC.same {CK p q b c kp g : Addr} {H H' : Hp} {ks : List (Str × Int)} {ps : List Str} {ys : List (List (List Str))} (l : LawC CK H p q b c kp g ks ps ys) (s : Same H H') : LawC CK H' p q b c kp g ks ps ys := l.keep (Same.keep s) (l.M.hp.same s)
structure LawD (C CK : Addr) (H : Hp) (p q b c kp g hh dh : Addr) (ks : List (Str × Int)) (ps : List Str) (ys : List (List (List Str))) : Prop where
  L : LawC CK H p q b c kp g ks ps ys
  hat : HistAt C CK (wo p H) hh ks ys
  dy : Ys .tup (wo p H) (.ref dh) ys
theorem LawD.keep {C CK p q b c kp g hh dh : Addr} {H H' : Hp} {ks : List (Str × Int)} {ps : List Str} {ys : List (List (List Str))} (l : LawD C CK H p q b c kp g hh dh ks ps ys) (k : Keep H H' p) (hp : HandAt H' p q) : LawD C CK H' p q b c kp g hh dh ks ps ys :=
  ⟨l.L.keep k hp, l.hat.keep (wo_keep k), l.dy.keep (wo_keep k)⟩
theorem LawD.same {C CK p q b c kp g hh dh : Addr} {H H' : Hp} {ks : List (Str × Int)} {ps : List Str} {ys : List (List (List Str))} (l : LawD C CK H p q b c kp g hh dh ks ps ys) (s : Same H H') : LawD C CK H' p q b c kp g hh dh ks ps ys :=
  l.keep (Same.keep s) (l.L.M.hp.same s)
theorem ne_same {C CK x y : Addr} {H : Hp} {ks : List (Str × Int)} {ys : List (List (List Str))} {Q : VK} (h1 : HistAt C CK H x ks ys) (h2 : HistAt C CK H y ks ys) (o : OkK ks) (oy : OkY ys) (q : Q (.bl false) H) : rNeOwn C (spHEq C CK) E0x (.ref x) (.ref y) H Q := by
  obtain ⟨dx, fs, _, _, i1, _, _, _, _, _⟩ := h1.ob
  obtain ⟨dy, gs, _, _, j1, _, _, _, _, _⟩ := h2.ob
  refine ⟨x, dx, fs, y, dy, gs, rfl, i1, rfl, j1, _, _, ks, ys, rfl, h1, o, oy, .inl ⟨_, _, _, rfl, h2, o, oy, _, rfl, ?_⟩⟩
  rw [decide_eq_true (⟨rfl, rfl⟩ : ks = ks ∧ ys = ys)]
  exact q
theorem eq_hist {K : PySem.W.Frag} {C CK x y : Addr} {H : Hp} {ks ls : List (Str × Int)} {ys zs : List (List (List Str))} {Q : VK} (nf : PySem.W.notFirst K C (.ref C) = true) (h1 : HistAt C CK H x ks ys) (h2 : HistAt C CK H y ls zs) (o : OkK ks) (oy : OkY ys) (o' : OkK ls) (oy' : OkY zs) (q : Q (.bl (decide (ks = ls ∧ ys = zs))) H) : rEqOwn K C (spHEq C CK) E0x (.ref x) (.ref y) H Q := by
  obtain ⟨dx, fs, _, _, i1, _, _, _, _, _⟩ := h1.ob
  obtain ⟨dy, gs, _, _, j1, _, _, _, _, _⟩ := h2.ob
  exact ⟨x, dx, fs, rfl, i1, .inl ⟨y, dy, gs, C, rfl, j1, nf⟩, _, _, ks, ys, rfl, h1, o, oy, .inl ⟨_, _, _, rfl, h2, o', oy', _, rfl, q⟩⟩
theorem mk_kinds {K : PySem.W.Frag} {C CB : Addr} {ls : List (Str × Int)} {l : Addr} {Hx : Hp} {Q' : Addr → Hp → Prop} (gl : GoodK ls) (h : GoodL Hx l ls) (q' : ∀ x H', Hx x = none → Same Hx H' → KindsAt C H' x (vv ls) → Q' x H') :
    ∀ x dx, Hx x = none → Hx dx = none → dx ≠ x → spKinds K C CB (.ref x :: ([.ref l] ++ [])) (upd (upd Hx dx (.own x)) x (.ins C dx [])) (fun v H2 => v = .non ∧ Q' x H2) (fun _ _ _ => False) := by
  obtain ⟨xs, hx, it⟩ := h
  intro x dx hx0 hdx ne
  have s0 : Same Hx (upd (upd Hx dx (.own x)) x (.ins C dx [])) := (sameUpd (Same.refl _) hdx).trans (sameUpd (Same.refl _) (by rw [upd_ne ne.symm]; exact hx0))
  have ar := rows_of (it.keep s0) gl
  refine ⟨x, dx, .ref l, some (rsOf ls), rfl, upd_same, .lst (s0 _ _ hx) ar (by rw [ar.1]; simp [rsOf]; have := gl.hi; omega), (fun e => by cases e; rw [hx] at hx0; cases hx0), (fun e => by cases e; rw [hx] at hdx; cases hdx), ?_⟩
  rw [good_due gl]
  intro rs H' er kp ka
  cases er
  rw [pr_rsOf] at ka
  exact ⟨rfl, q' x H' hx0 (fun c o e => kp c o (s0 c o e) (ne_of_none e hx0)) ka⟩
/-- History(kinds, years) of good ones -/
theorem mk_hist {K : PySem.W.Frag} {C CK CB kp l : Addr} {ls : List (Str × Int)} {ys : List (List (List Str))} {Hx : Hp} {Q' : Addr → Hp → Prop} (hk : KindsAt CK Hx kp (vv ls)) (kb : kbOk ls) (hy : YearsIs K Hx (.ref l) (some (yR ys))) (due : yearsDue ls (some (yR ys)) = none)
    (q' : ∀ x H', Hx x = none → Same Hx H' → HistAt C CK H' x ls ys → Q' x H') :
    ∀ x dx, Hx x = none → Hx dx = none → dx ≠ x → spHist K C CK CB (.ref x :: ([.ref kp, .ref l] ++ [])) (upd (upd Hx dx (.own x)) x (.ins C dx [])) (fun v H2 => v = .non ∧ Q' x H2) (fun _ _ _ => False) := by
  intro x dx hx0 hdx ne
  refine hist_free hk kb hy due hx0 hdx fun zs H' e s hh => ?_
  have e2 := yR_inj (Option.some.inj e)
  subst e2
  exact ⟨rfl, q' x H' hx0 s hh⟩
theorem Ss.wo {H : Hp} {x : V} {zs : List Str} {p q : Addr} (h : Ss .tup H x zs) (hp : HandAt H p q) : Ss .tup (wo p H) x zs := by
  obtain ⟨cs, a, b, c, ha, hb⟩ := hp
  obtain ⟨d, e, h⟩ := h
  exact ⟨d, e, wo_at h fun z => by rw [z, ha] at h; cases h⟩
theorem Ds.wo {H : Hp} {x : V} {y : List (List Str)} {p q : Addr} (h : Ds .tup H x y) (hp : HandAt H p q) : Ds .tup (wo p H) x y := by
  obtain ⟨d, xs, e, h, px⟩ := h
  refine ⟨d, xs, e, wo_at h fun z => ?_, pr_imp px fun _ _ h => h.wo hp⟩
  obtain ⟨cs, a, b, c, ha, hb⟩ := hp
  rw [z, ha] at h; cases h
theorem Ys.wo {H : Hp} {x : V} {ys : List (List (List Str))} {p q : Addr} (h : Ys .tup H x ys) (hp : HandAt H p q) : Ys .tup (wo p H) x ys := by
  obtain ⟨d, xs, e, h, px⟩ := h
  refine ⟨d, xs, e, wo_at h fun z => ?_, pr_imp px fun _ _ h => h.wo hp⟩
  obtain ⟨cs, a, b, c, ha, hb⟩ := hp
  rw [z, ha] at h; cases h
theorem HistAt.wo {C CK : Addr} {H : Hp} {h : Addr} {ks : List (Str × Int)} {ys : List (List (List Str))} {p q : Addr} (hh : HistAt C CK H h ks ys) (hp : HandAt H p q) : HistAt C CK (wo p H) h ks ys := by
  obtain ⟨dx, kp, yt, h1, h2, h3⟩ := hh.ex
  refine ⟨dx, kp, yt, wo_at h1 fun z => ?_, h2.wo hp, h3.wo hp⟩
  obtain ⟨cs, a, b, c, ha, hb⟩ := hp
  rw [z, ha] at h1; cases h1
theorem fm_bound {α β : Type} {f : α → List β} {n : Nat} : ∀ {xs : List α}, (∀ x ∈ xs, (f x).length ≤ n) → (xs.flatMap f).length ≤ xs.length * n
  | [], _ => by simp
  | x :: xs, h => by
    have ih := fm_bound (xs := xs) fun y m => h y (.tail _ m)
    have h1 := h x (.head _)
    rw [List.flatMap_cons, List.length_append, List.length_cons, Nat.add_mul]
    omega
theorem FewY.pers {ys : List (List (List Str))} (f : FewY ys) : (allP ys).length ≤ 1000000 := by
  have h1 : ∀ y ∈ ys, (yearP y).length ≤ 10000 := fun y hy => by
    have h2 : (yearP y).length ≤ y.length * 100 := fm_bound fun d hd => by
      have := ((f.each y hy).2 d hd).1
      show d.tail.length ≤ 100
      rw [List.length_tail]
      omega
    have := (f.each y hy).1
    omega
  have h3 : (allP ys).length ≤ ys.length * 10000 := fm_bound h1
  have := f.n
  omega
theorem Ys.ddT {H : Hp} {x : V} {ys : List (List (List Str))} (h : Ys .tup H x ys) (n : ys.length ≤ 10) (f : ∀ y ∈ ys, y.length ≤ 10 ∧ ∀ d ∈ y, d.length ≤ 10 ∧ ∀ z ∈ d, Fine z) : Dd H 3 x (dYs ys) := by
  have strz : ∀ {zs : List Str}, (∀ z ∈ zs, Fine z) → Dds H 0 (zs.map V.str) (zs.map PyData.str) := fun h => strs_dds h
  have deeds : ∀ {xs : List V} {y : List (List Str)}, Paired (Ss .tup H) xs y → (∀ d ∈ y, d.length ≤ 10 ∧ ∀ z ∈ d, Fine z) → Dds H 1 xs (y.map dD) := by
    intro xs y p
    induction p with
    | nil => intro _; exact .nil
    | cons h t ih =>
      rename_i x d xs y
      intro f
      obtain ⟨a, rfl, ha⟩ := h
      obtain ⟨f1, f2⟩ := f d (.head _)
      exact .cons (Dd.tupP ha (by rw [List.length_map]; exact f1) (strz f2)) (ih fun d m => f d (.tail _ m))
  have all : ∀ {xs : List V} {ys : List (List (List Str))}, Paired (Ds .tup H) xs ys → (∀ y ∈ ys, y.length ≤ 10 ∧ ∀ d ∈ y, d.length ≤ 10 ∧ ∀ z ∈ d, Fine z) → Dds H 2 xs (ys.map dDs) := by
    intro xs ys p
    induction p with
    | nil => intro _; exact .nil
    | cons h t ih =>
      rename_i x y xs ys
      intro f
      obtain ⟨a, zs, rfl, ha, pz⟩ := h
      obtain ⟨f1, f2⟩ := f y (.head _)
      exact .cons (Dd.tupP ha (by rw [Paired.length pz]; exact f1) (deeds pz f2)) (ih fun y m => f y (.tail _ m))
  obtain ⟨a, xs, rfl, ha, p⟩ := h
  exact Dd.tupP ha (by rw [Paired.length p]; exact n) (all p f)
theorem addAll_mem : ∀ {zs acc : List Str} {z : Str}, z ∈ addAll acc zs → z ∈ acc ∨ z ∈ zs
  | [], acc, z, h => .inl h
  | y :: zs, acc, z, h => by
    have h : z ∈ addAll (add1 acc y) zs := h
    rcases addAll_mem h with h | h
    · unfold add1 at h
      split at h
      · exact .inl h
      · rcases List.mem_append.mp h with h | h
        · exact .inl h
        · exact .inr (by rw [List.mem_singleton.mp h]; exact .head _)
    · exact .inr (.tail _ h)
theorem FewY.pok {ys : List (List (List Str))} (f : FewY ys) : ∀ z ∈ persOf ys, PyData.strOk z = true := fun z hz => by
  rcases addAll_mem hz with h | h
  · cases h
  · obtain ⟨y, hy, h⟩ := List.mem_flatMap.mp h
    obtain ⟨d, hd, h⟩ := List.mem_flatMap.mp h
    exact (((f.each y hy).2 d hd).2 z (List.mem_of_mem_tail h)).1
theorem at0 (x : V) (xs : List V) : atI (x :: xs) 0 = some x := by
  have h : ixN (x :: xs).length 0 = some 0 := by
    unfold ixN
    rw [if_pos (by decide), if_pos (by rw [List.length_cons]; omega)]
    rfl
  unfold atI
  rw [h]
  rfl
theorem at1 (x y : V) (xs : List V) : atI (x :: y :: xs) 1 = some y := by
  have h : ixN (x :: y :: xs).length 1 = some 1 := by
    unfold ixN
    rw [if_pos (by decide), if_pos (by rw [List.length_cons, List.length_cons]; omega)]
    rfl
  unfold atI
  rw [h]
  rfl
theorem sum_len : ∀ ys : List (List (List Str)), (ys.map fun d => (d.length : Int)).sum = ((dCount ys : Nat) : Int)
  | [] => rfl
  | y :: ys => by
    have ih := sum_len ys
    unfold dCount at ih ⊢
    rw [List.map_cons, List.sum_cons, ih, List.map_cons, List.sum_cons]
    omega
theorem shaped_dD {d : List Str} (h : ∀ z ∈ d, PyData.strOk z = true) : SeqAt.shaped (dD d) = true := by
  obtain ⟨a, b⟩ := lay_dD h
  unfold SeqAt.shaped
  rw [Bool.and_eq_true]
  exact ⟨a, decide_eq_true (by omega)⟩
end Kx

set_option maxHeartbeats 4000000
namespace Kx
open PySem PySem.Spec PyProof.Rows L2
/-! an own error without fields; joined, agrees -/
section
variable {X : Cx} {C : Addr} {bmB : List Value} {B newId initId : String}
theorem pmk_own0 {x : Str} {p pos : Pos} (F : ExcBaseFacts B newId initId bmB) (q : PySem.W.excIn X.K C bmB newId = true) (gC : X.mg x = some (.ref C)) (kC : PySem.W.keepIn X.K (.ref C) = true) (r : Raises X (.ref C)) (hg : Gl X x)
    (hdb : (x == ("__debug__" : Str)) = false := by decide) : PMk X (.Call (.Name x p) [] [] pos) (fun _ H Q => Q (.ref C) none H) := by
  intro pins s σ H Q I h
  refine wpAny_Call_Name_kw (ld_glob I hg gC ?_ hdb)
  refine PySem.W.callWith_K0 I.kIn kC ?_
  show wpAny _ _ (call (.ref C) []) _ _ _
  obtain ⟨bm, N, nm, qn, bs, hdct, sn, sub, ab, col, dd, k0, k1, k2, k3, k5, mN, hC, hN, hni, T⟩ := exc_obj I.kIn q
  refine wpAny_call_exc_subT F T hC hN hni (fun h' e hm => ?_) (Nat.zero_le _)
  exact mk_of I hm r h (I.hok.gone hm.new)
end
/-- what is known of an own error without fields -/
structure OwnE (K : PySem.W.Frag) (mg : Str → Option Value) (x : Str) (C : Addr) (B newId initId : String) (bmB : List Value) : Prop where
  F : ExcBaseFacts B newId initId bmB
  q : PySem.W.excIn K C bmB newId = true
  m : mg x = some (.ref C)
  kp : PySem.W.keepIn K (.ref C) = true
  sub : PySem.W.subIn K (.ref C) (.type "BaseException") = some true
  ty : PySem.W.typeIn K (.ref C) = some (.type "type")
theorem few_long {ys : List (List (List Str))} (f : FewY ys) : tooMany (yR ys) = false := by
  have c := count_few (n := 100) fun y hy => (f.each y hy).1
  have n := f.n
  have ln : (yR ys).length = ys.length := by simp [yR]
  have c2 : ys.length * 100 ≤ 10000 := by omega
  unfold tooMany
  rw [decide_eq_false (show ¬ 1000000 < (yR ys).length by omega), decide_eq_false (show ¬ 1000000 < countD (yR ys) by omega)]
  rfl
def spJoined (C CK CO : Addr) : Sp := fun vs H Q E => ∃ (p o : Addr) (ks ls : List (Str × Int)) (ys zs : List (List (List Str))), vs = [.ref p, .ref o] ∧ HistAt C CK H p ks ys ∧ HistAt C CK H o ls zs ∧ kbOk ks ∧ OkK ks ∧ OkK ls ∧ FewY (ys ++ zs) ∧
  ((ks = ls ∧ ∀ q H', H q = none → Same H H' → HistAt C CK H' q ks (ys ++ zs) → Q (.ref q) H') ∨ (ks ≠ ls ∧ E (.ref CO) none H))
section
variable {P : Program} {w : World} {K : PySem.W.Frag} {mg : Str → Option Value} {base : Heap}
theorem scJoined : FnScope ["self", "other", "years"] ["self", "other"] (defScope sHistory_joined) := ⟨rfl, rfl, rfl, by decide +kernel, rfl, by decide +kernel, by decide +kernel⟩
theorem ok_joined {f C CK CO CB fB gE : Addr} {fd fdE fdB : FuncData} {B newId initId : String} {bmB : List Value} (F : Fun K "joined" "History.joined" sHistory_joined f fd) (HX : HC K C) (KX : KC K CK) (OE : OwnM P w K mg base CK "__eq__" 1 ["self", "other"] (spKEq CK) gE fdE) (ne : PySem.W.findIn K (.ref CK) "__ne__" = some (some (.builtin "object.__ne__")))
    (EO : OwnE K mg "OtherKinds" CO B newId initId bmB) (Lg : HasF P w K mg base "_is_too_long" 2 ["years"] (spLong K)) (HO : HasF P w K mg base "history_of" 6 ["kinds", "years"] (spHistOf C CK)) (EB : BH P w K mg base CB fB fdB) : FnOk P w K mg base (L2.CX P w) 7 f fd ["self", "other"] (spJoined C CK CO) := by
  obtain ⟨f1, fd1, Lg⟩ := Lg; obtain ⟨f2, fd2, HO⟩ := HO
  refine F.okX scJoined (fun vs H Q E h => ?_) (fun cdv A outer s H vs Q E hr h => ?_)
  · obtain ⟨a, b, c, d, e, g, rfl, _⟩ := h
    rfl
  · obtain ⟨p, o, ks, ls, ys, zs, rfl, hp, ho, kb, ok, ol, few, h⟩ := h
    have hr1 : Room 1 _ := hr.mono (by decide)
    have hr2 : Room 2 _ := hr.mono (by decide)
    refine ⟨_, (pss_cons (ps_if (pt_cmpR (op_neOwn KX.cm ne OE.M.at_ OE.M.fn OE.raw hr2 pass0) (pe_fld (pv 0) rfl) (pe_fld (pv 1) rfl) (nomark _)) (pss_one (ps_raise rfl (takes_of rfl rfl rfl rfl) (pmk_own0 EO.F EO.q EO.m EO.kp (raises_own EO.sub EO.ty) (by rfl)))) pss_nil)
    (pss_cons (ps_set (i := 2) scJoined.nd rfl (Or.inl rfl) (pe_tup (StX.pa_star (pe_fld (pv 0) rfl) (StX.pa_star (pe_fld (pv 1) rfl) pa_nil))))
    (pss_cons (ps_if (pt_val (pe_call Lg.G hr2 (by rfl) Lg.m Lg.kp Lg.b .nil pass0 (pa_cons (pv 2) pa_nil))) pss_never pss_nil)
    (pss_one (ps_ret (pe_call HO.G hr (by rfl) HO.m HO.kp HO.b .nil pass0 (pa_cons (pe_fld (pv 0) rfl) (pa_cons (pv 2) pa_nil)))))))), ?_⟩
    obtain ⟨dx, fs, kp, yt, h1, h2, h3, h4, h5, h6⟩ := hp.ob
    obtain ⟨dx', fs', kp', yt', g1, g2, g3, g4, g5, g6⟩ := ho.ob
    obtain ⟨kdx, kfs, _, _, _, _, i1, _⟩ := h5.get (K := K)
    obtain ⟨kdx', kfs', _, _, _, _, i1', _⟩ := g5.get (K := K)
    obtain ⟨xs, hx, px⟩ := h6.cut
    obtain ⟨xs', hx', px'⟩ := g6.cut
    refine ⟨_, rfl, p, C, dx, fs, _, rfl, h1, HX.cl, HX.nK, h2, _, rfl, o, C, dx', fs', _, rfl, g1, HX.cl, HX.nK, g2, ?_⟩
    refine ⟨kp, kdx, kfs, kp', kdx', kfs', rfl, i1, rfl, i1', kp, _, ks, rfl, h5, ok, .inl ⟨kp', ls, rfl, g5, ol, _, rfl, _, rfl, ?_⟩⟩
    rcases h with ⟨e, k⟩ | ⟨e, k⟩
    · subst e
      rw [decide_eq_true rfl]
      refine iteF ?_
      have n1 := few.n
      rw [List.length_append, ← Paired.length px, ← Paired.length px'] at n1
      refine ⟨_, rfl, p, C, dx, fs, _, rfl, h1, HX.cl, HX.nY, h3, yt, xs, rfl, .inl (SqT.of hx), _, rfl, o, C, dx', fs', _, rfl, g1, HX.cl, HX.nY, g3, yt', xs', rfl, .inl (SqT.of hx'), Nat.le_of_lt (small1000 (by rw [List.length_append, List.length_append, List.length_nil]; omega)), fun t ht => ?_⟩
      rw [List.append_nil]
      have s1 : Same H (upd H t (.tup (xs ++ xs'))) := sameUpd (Same.refl _) ht
      have yst : Ys .tup (upd H t (.tup (xs ++ xs'))) (.ref t) (ys ++ zs) := ⟨t, _, rfl, upd_same, pr_app (pr_imp px fun _ _ q => q.keep s1) (pr_imp px' fun _ _ q => q.keep s1)⟩
      refine ⟨_, rfl, t, xs ++ xs', yR (ys ++ zs), rfl, .tup upd_same, years_of (.inr rfl) (pr_app (pr_imp px fun _ _ q => q.keep s1) (pr_imp px' fun _ _ q => q.keep s1)) few.each, by rw [List.length_append]; omega, fun H2 s2 => ?_⟩
      rw [few_long few]
      refine ⟨_, rfl, iteF ?_⟩
      have s12 := s1.trans s2
      exact ⟨_, rfl, p, C, dx, fs, _, rfl, s12 _ _ h1, HX.cl, HX.nK, h2, _, rfl, kp, t, ks, ys ++ zs, rfl, h5.keep s12, kb, yst.keep s2, fun q H' hq s hh => k q H' (s12.free hq) (s12.trans s) hh⟩
    · rw [decide_eq_false e]
      exact iteT k
end
end Kx

set_option maxHeartbeats 4000000
namespace Kx
open PySem PySem.Spec PyProof.Rows L2
/-! agrees -/
def agreeB (m : Nat) (ys zs : List (List (List Str))) : Bool := decide (m ≤ ys.length ∧ m ≤ zs.length ∧ lst' m ys = lst' m zs)
def spAgrees (C CK CO CY : Addr) : Sp := fun vs H Q E => ∃ (p o : Addr) (y : V) (n : String) (ks ls : List (Str × Int)) (ys zs : List (List (List Str))), vs = [.ref p, .ref o, y] ∧ HistAt C CK H p ks ys ∧ HistAt C CK H o ls zs ∧ OkK ks ∧ OkK ls ∧ OkY ys ∧ OkY zs ∧ ys.length ≤ 2000000 ∧ zs.length ≤ 2000000 ∧ Kd H y n ∧
  ((ks ≠ ls ∧ E (.ref CO) none H) ∨ (ks = ls ∧ match wholeN y 1000000 with
    | some m => ∀ H', Same H H' → Q (.bl (agreeB m ys zs)) H'
    | none => ∀ d H', H d = none → Same H H' → H' d = some (.xd [("years", y)]) → E (.ref CY) (some d) H'))
theorem OkY.drop {ys : List (List (List Str))} (o : OkY ys) (m : Nat) : OkY (lst' m ys) := fun y hy => o y (List.mem_of_mem_drop hy)
section
variable {P : Program} {w : World} {K : PySem.W.Frag} {mg : Str → Option Value} {base : Heap}
theorem scAgrees : FnScope ["self", "other", "years"] ["self", "other", "years"] (defScope sHistory_agrees) := ⟨rfl, rfl, rfl, by decide +kernel, rfl, by decide +kernel, by decide +kernel⟩
theorem ok_agrees {f C CK CO CY fY gE gL : Addr} {fd fdE fdY fdL : FuncData} {B newId initId : String} {bmB : List Value} (F : Fun K "agrees" "History.agrees" sHistory_agrees f fd) (HX : HC K C) (KX : KC K CK) (Mh : Hm mg) (OE : OwnM P w K mg base CK "__eq__" 1 ["self", "other"] (spKEq CK) gE fdE) (ne : PySem.W.findIn K (.ref CK) "__ne__" = some (some (.builtin "object.__ne__")))
    (EO : OwnE K mg "OtherKinds" CO B newId initId bmB) (W : HasF P w K mg base "is_whole" 1 ["thing", "low", "high"] spWhole) (LO : HasF P w K mg base "_last_of" 1 ["years", "many"] spLastOf) (OL : OwnM P w K mg base C "__len__" 1 ["self"] (spHLen C CK) gL fdL) (mL : mg "len" = none) (EY : BY P w K mg base CY fY fdY) :
    FnOk P w K mg base (L2.CX P w) 3 f fd ["self", "other", "years"] (spAgrees C CK CO CY) := by
  obtain ⟨f1, fd1, W⟩ := W; obtain ⟨f2, fd2, LO⟩ := LO
  obtain ⟨tY, mY⟩ := Mh.years
  refine F.okX scAgrees (fun vs H Q E h => ?_) (fun cdv A outer s H vs Q E hr h => ?_)
  · obtain ⟨a, b, c, d, e, g, i, j, rfl, _⟩ := h
    rfl
  · obtain ⟨p, o, y, n, ks, ls, ys, zs, rfl, hp, ho, ok, ol, oy, oz, ly, lz, ky, h⟩ := h
    have hr1 : Room 1 _ := hr.mono (by decide)
    refine ⟨_, (pss_cons (ps_if (pt_cmpR (op_neOwn KX.cm ne OE.M.at_ OE.M.fn OE.raw hr pass0) (pe_fld (pv 0) rfl) (pe_fld (pv 1) rfl) (nomark _)) (pss_one (ps_raise rfl (takes_of rfl rfl rfl rfl) (pmk_own0 EO.F EO.q EO.m EO.kp (raises_own EO.sub EO.ty) (by rfl)))) pss_nil)
    (pss_cons (ps_if (pt_not (pt_val (pe_call W.G hr1 (by rfl) W.m W.kp W.b .nil pass0 (pa_cons (pv 2) (pa_cons pe_int (pa_cons (pe_glob (v := .int 1000000) rfl mY ⟨_, rfl⟩) pa_nil)))))) (pss_one (ps_raise rfl (takes_of rfl rfl rfl rfl) (pmk_oex EY.E.T EY.E.iC EY.E.tI EY.E.G hr EY.E.b .nil pass0 (by rfl) EY.E.gC (pa_cons (pv 2) pa_nil)))) pss_nil)
    (pss_cons (ps_if (PW.pt (pw_or (pt_cmpR op_gt (pv 2) (pe_callB (call_lenOwn OL.M.at_ OL.M.fn OL.raw hr pass0) (by rfl) mL PySem.boot_len (pa_cons (pv 0) pa_nil)) (nomark _)) (pw_or1 (pt_cmpR op_gt (pv 2) (pe_callB (call_lenOwn OL.M.at_ OL.M.fn OL.raw hr pass0) (by rfl) mL PySem.boot_len (pa_cons (pv 1) pa_nil)) (nomark _))))) (pss_one (ps_ret pe_bl)) pss_nil)
    (pss_one (ps_ret (pe_cmpR (op_eqD hr.units) (pe_call LO.G hr1 (by rfl) LO.m LO.kp LO.b .nil pass0 (pa_cons (pe_fld (pv 0) rfl) (pa_cons (pv 2) pa_nil))) (pe_call LO.G hr1 (by rfl) LO.m LO.kp LO.b .nil pass0 (pa_cons (pe_fld (pv 1) rfl) (pa_cons (pv 2) pa_nil))) (nomark _))))))), ?_⟩
    obtain ⟨dx, fs, kp, yt, h1, h2, h3, h4, h5, h6⟩ := hp.ob
    obtain ⟨dx', fs', kp', yt', g1, g2, g3, g4, g5, g6⟩ := ho.ob
    obtain ⟨kdx, kfs, _, _, _, _, i1, _⟩ := h5.get (K := K)
    obtain ⟨kdx', kfs', _, _, _, _, i1', _⟩ := g5.get (K := K)
    obtain ⟨xs, hx, px⟩ := h6.cut
    obtain ⟨xs', hx', px'⟩ := g6.cut
    have lx := Paired.length px
    have lx' := Paired.length px'
    refine ⟨_, rfl, p, C, dx, fs, _, rfl, h1, HX.cl, HX.nK, h2, _, rfl, o, C, dx', fs', _, rfl, g1, HX.cl, HX.nK, g2, ?_⟩
    refine ⟨kp, kdx, kfs, kp', kdx', kfs', rfl, i1, rfl, i1', kp, _, ks, rfl, h5, ok, .inl ⟨kp', ls, rfl, g5, ol, _, rfl, _, rfl, ?_⟩⟩
    rcases h with ⟨e, k⟩ | ⟨e, k⟩
    · rw [decide_eq_false e]
      exact iteT k
    subst e
    rw [decide_eq_true rfl]
    refine iteF ?_
    refine ⟨_, rfl, y, n, 0, 1000000, rfl, ky, _, rfl, ?_⟩
    have ew := wholeN_V y 1000000
    rw [show wholeV y 0 1000000 = (wholeN y 1000000).isSome from ew]
    cases e : wholeN y 1000000 with
    | none =>
      rw [e] at k
      exact iteT ⟨_, rfl, fin1 EY.E.T EY.n1 fun d H2 hd s2 e2 => k d H2 hd s2 e2⟩
    | some m =>
      rw [e] at k
      obtain ⟨rfl, lm⟩ := wholeN_some e
      have k : ∀ H', Same H H' → Q (V.bl (agreeB m ys zs)) H' := k
      refine iteF ?_
      refine ⟨_, rfl, _, rfl, p, dx, fs, rfl, h1, p, ks, ys, rfl, hp, _, rfl, by omega, by omega, _, _, rfl, rfl, _, rfl, ?_⟩
      refine ite2 (fun c1 => ?_) (fun c1 => ?_)
      · have c1 := of_decide_eq_true c1
        have ab : agreeB m ys zs = false := decide_eq_false fun z => by have := z.1; omega
        rw [ab] at k
        exact iteT (k H (Same.refl _))
      refine ⟨_, rfl, _, rfl, o, dx', fs', rfl, g1, o, ks, zs, rfl, ho, _, rfl, by omega, by omega, _, _, rfl, rfl, _, rfl, ?_⟩
      refine ite2 (fun c2 => ?_) (fun c2 => ?_)
      · have c2 := of_decide_eq_true c2
        have ab : agreeB m ys zs = false := decide_eq_false fun z => by have := z.2.1; omega
        rw [ab] at k
        exact k H (Same.refl _)
      have c1 : ¬ ((ys.length : Nat) : Int) < (m : Nat) := fun z => c1 (decide_eq_true z)
      have c2 : ¬ ((zs.length : Nat) : Int) < (m : Nat) := fun z => c2 (decide_eq_true z)
      refine ⟨_, rfl, p, C, dx, fs, _, rfl, h1, HX.cl, HX.nY, h3, _, rfl, yt, xs, m, rfl, hx, by omega, fun t H1 s1 ht => ?_⟩
      refine ⟨_, rfl, o, C, dx', fs', _, rfl, s1 _ _ g1, HX.cl, HX.nY, g3, _, rfl, yt', xs', m, rfl, s1 _ _ hx', by omega, fun t2 H2 s2 ht2 => ?_⟩
      have s12 := s1.trans s2
      have y1 : Ys .tup H2 (.ref t) (lst' m ys) := ⟨t, _, rfl, s2 _ _ ht, by
        unfold lst'
        rw [lx]
        exact pr_drop (pr_imp px fun _ _ q => q.keep s12) _⟩
      have y2 : Ys .tup H2 (.ref t2) (lst' m zs) := ⟨t2, _, rfl, ht2, by
        unfold lst'
        rw [lx']
        exact pr_drop (pr_imp px' fun _ _ q => q.keep s12) _⟩
      refine ⟨dYs (lst' m ys), dYs (lst' m zs), y1.dp, y2.dp, shaped_dYs (oy.drop m), shaped_dYs (oz.drop m), ?_⟩
      rw [eqv_dYs]
      have ab : agreeB m ys zs = decide (lst' m ys = lst' m zs) := decide_eq_decide.mpr ⟨fun z => z.2.2, fun z => ⟨by omega, by omega, z⟩⟩
      rw [ab] at k
      exact k H2 s12
end
end Kx

set_option maxHeartbeats 4000000
namespace Kx
open PySem PySem.Spec PyProof.Rows L2
/-! then_year -/
theorem few_more {ys : List (List (List Str))} {r : Option (List (Option (List V)))} (f : FewY ys) (l : lenY r ≤ 100) : tooMany (yR ys ++ [r]) = false := by
  have c := count_few (n := 100) fun y hy => (f.each y hy).1
  have n := f.n
  have ln : (yR ys).length = ys.length := by simp [yR]
  have c2 : ys.length * 100 ≤ 10000 := by omega
  have c3 : countD (yR ys ++ [r]) = countD (yR ys) + lenY r := by
    unfold countD
    rw [List.map_append, List.sum_append]
    simp
  unfold tooMany
  rw [decide_eq_false (show ¬ 1000000 < (yR ys ++ [r]).length by rw [List.length_append]; show ¬ 1000000 < _ + 1; omega), decide_eq_false (show ¬ 1000000 < countD (yR ys ++ [r]) by omega)]
  rfl
def spThen (K : PySem.W.Frag) (C CK CB : Addr) : Sp := fun vs H Q E => ∃ (p t : Addr) (ks : List (Str × Int)) (ys : List (List (List Str))) (r : Option (List (Option (List V)))), vs = [.ref p, .ref t] ∧ HistAt C CK H p ks ys ∧ kbOk ks ∧ FewY ys ∧ YearIs K H (.ref t) r ∧ lenY r ≤ 100 ∧
  match yearWord ks r with
  | some (j, w) => ∀ d H', H d = none → Same H H' → H' d = some (.xd (bhF (ys.length : Nat) j w)) → E (.ref CB) (some d) H'
  | none => ∀ ds, r = some (dR ds) → ∀ q H', H q = none → Same H H' → HistAt C CK H' q ks (ys ++ [ds]) → Q (.ref q) H'
section
variable {P : Program} {w : World} {K : PySem.W.Frag} {mg : Str → Option Value} {base : Heap}
theorem scThen : FnScope ["self", "deeds", "year"] ["self", "deeds"] (defScope sHistory_then_year) := ⟨rfl, rfl, rfl, by decide +kernel, rfl, by decide +kernel, by decide +kernel⟩
theorem ok_then {f C CK CB fB gL gY : Addr} {fd fdB fdL fdY : FuncData} (F : Fun K "then_year" "History.then_year" sHistory_then_year f fd) (HX : HC K C) (Lg : HasF P w K mg base "_is_too_long" 2 ["years"] (spLong K)) (HO : HasF P w K mg base "history_of" 6 ["kinds", "years"] (spHistOf C CK))
    (OL : OwnM P w K mg base C "__len__" 1 ["self"] (spHLen C CK) gL fdL) (mL : mg "len" = none) (YO : FnOk P w K mg base (L2.CX P w) 3 gY fdY ["kinds", "index", "year"] (spYearOf K CK CB)) (mY : mg "_year_of" = some (.ref gY)) (kpY : PySem.W.keepIn K (.ref gY) = true) (bY : Binds K fdY ["kinds", "index", "year"] []) :
    FnR P w K mg base (L2.CX P w) 7 f (fun vs H Q E => ∃ ws rest, vs = ws ++ rest ∧ ws.length = ["self"].length ∧ rest.length ≤ sizeLine ∧ ∀ p, H p = Option.none → spThen K C CK CB (ws ++ [V.ref p]) (upd H p (.tup rest)) Q E) := by
  obtain ⟨oc, od, kV, doc, pm, an, cdv, ct, osl, rfl, lk, hcd⟩ := F.ex
  obtain ⟨f1, fd1, Lg⟩ := Lg; obtain ⟨f2, fd2, HO⟩ := HO
  refine StX.fn_star (ps := ["self"]) (pv := "deeds") lk hcd scThen StX.cxUp (StX.bind_star1 (B := fun us => bindArgs (PySem.W.fnOf "then_year" "History.then_year" (defArgs sHistory_then_year) (defBody sHistory_then_year) (defScope sHistory_then_year) .none kV doc pm an cdv ct) ⟨us, []⟩) (p1 := "self") (pv := "deeds") (fun a => by rfl) (fun a r rs => by rfl)) fun A outer s H vs Q E hr h => ?_
  obtain ⟨p, t, ks, ys, r, rfl, hp, kb, few, hy, lr, k⟩ := h
  have hr1 : Room 1 _ := hr.mono (by decide)
  have hr2 : Room 2 _ := hr.mono (by decide)
  have hr3 : Room 3 _ := hr.mono (by decide)
  refine ⟨_, (pss_cons (ps_if (pt_val (pe_call Lg.G hr2 (by rfl) Lg.m Lg.kp Lg.b .nil pass0 (pa_cons (pe_tup (StX.pa_star (pe_fld (pv 0) rfl) (pa_cons (pv 1) pa_nil))) pa_nil))) pss_never pss_nil)
    (pss_cons (ps_set (i := 2) scThen.nd rfl (Or.inl rfl) (pe_callS YO hr3 (by rfl) mY kpY bY (fun σ => passAt (takes_of rfl rfl rfl rfl) σ) (pa_cons (pe_fld (pv 0) rfl) (pa_cons (pe_callB (call_lenOwn OL.M.at_ OL.M.fn OL.raw hr2 pass0) (by rfl) mL PySem.boot_len (pa_cons (pv 0) pa_nil)) (pa_cons (pv 1) pa_nil)))))
    (pss_one (ps_ret (pe_call HO.G hr (by rfl) HO.m HO.kp HO.b .nil pass0 (pa_cons (pe_fld (pv 0) rfl) (pa_cons (pe_tup (StX.pa_star (pe_fld (pv 0) rfl) (pa_cons (pv 2) pa_nil))) pa_nil))))))), ?_⟩
  obtain ⟨dx, fs, kp, yt, h1, h2, h3, h4, h5, h6⟩ := hp.ob
  obtain ⟨xs, hx, px⟩ := h6.cut
  have lx := Paired.length px
  have n1 := few.n
  refine ⟨_, rfl, p, C, dx, fs, _, rfl, h1, HX.cl, HX.nY, h3, yt, xs, rfl, .inl (SqT.of hx), _, rfl, Nat.le_of_lt (small1000 (by rw [List.length_append]; show _ + 1 ≤ 1000; omega)), fun u hu => ?_⟩
  have s1 : Same H (upd H u (.tup (xs ++ [.ref t]))) := sameUpd (Same.refl _) hu
  refine ⟨u, xs ++ [.ref t], yR ys ++ [r], rfl, .tup upd_same, pr_app (years_of (.inr rfl) (pr_imp px fun _ _ q => q.keep s1) few.each) (.cons (hy.keep s1) .nil), by rw [List.length_append]; show _ + 1 ≤ _; omega, fun H2 s2 => ?_⟩
  rw [few_more few lr]
  refine ⟨_, rfl, iteF ?_⟩
  have s12 := s1.trans s2
  refine ⟨_, rfl, p, C, dx, fs, _, rfl, s12 _ _ h1, HX.cl, HX.nK, h2, _, rfl, p, dx, fs, rfl, s12 _ _ h1, p, ks, ys, rfl, hp.keep s12, _, rfl, by omega, by omega, _, rfl, ?_⟩
  refine ⟨kp, _, _, ks, r, rfl, h5.keep s12, kb, hy.keep s12, ?_⟩
  cases e : yearWord ks r with
  | some jw =>
    obtain ⟨j, ww⟩ := jw
    rw [e] at k
    exact fun d H3 hd s3 e3 => k d H3 (s12.free hd) (s12.trans s3) e3
  | none =>
    rw [e] at k
    intro x ds H3 er s3 dx3
    subst er
    have s13 := s12.trans s3
    obtain ⟨xa, xz, rfl, hxa, pxa⟩ := dx3
    refine ⟨_, rfl, p, C, dx, fs, _, rfl, s13 _ _ h1, HX.cl, HX.nK, h2, _, rfl, p, C, dx, fs, _, rfl, s13 _ _ h1, HX.cl, HX.nY, h3, yt, xs, rfl, .inl (SqT.of (s13 _ _ hx)), _, rfl, Nat.le_of_lt (small1000 (by rw [List.length_append]; show _ + 1 ≤ 1000; omega)), fun u2 hu2 => ?_⟩
    have s4 : Same H3 (upd H3 u2 (.tup (xs ++ [.ref xa]))) := sameUpd (Same.refl _) hu2
    have s14 := s13.trans s4
    refine ⟨kp, u2, ks, ys ++ [ds], rfl, h5.keep s14, kb, ⟨u2, _, rfl, upd_same, pr_app (pr_imp px fun _ _ q => q.keep s14) (.cons ⟨xa, xz, rfl, s4 _ _ hxa, pr_imp pxa fun _ _ q => q.keep s4⟩ .nil)⟩, fun q H' hq s hh => k ds rfl q H' (s14.free hq) (s14.trans s) hh⟩
end
end Kx

set_option maxHeartbeats 8000000
namespace Kx
open PySem PySem.Spec PyProof.Rows L2
/-! years as tuples of tuples -/
def Sx (H : Hp) (x : V) (z : List Str) : Prop := Ss .lst H x z ∨ Ss .tup H x z
def Dx (H : Hp) (x : V) (y : List (List Str)) : Prop := ∃ a xs, x = .ref a ∧ H a = some (.lst xs) ∧ Paired (Sx H) xs y
def spTuples : Sp := fun vs H Q _ => ∃ (a : Addr) (xs : List V) (ys : List (List (List Str))), vs = [.ref a] ∧ H a = some (.lst xs) ∧ Paired (Dx H) xs ys ∧ ys.length ≤ 1000 ∧ (∀ y ∈ ys, y.length ≤ 1000) ∧ ∀ t H', H t = none → Same H H' → Ys .tup H' (.ref t) ys → Q (.ref t) H'
abbrev nTup : List Str := ["_law_years", "_law_year", "_law_deed"]
abbrev scYear4 : Scope := { kind := ScopeKind.function, names := [(Str.ofString ".0", NameKind.local), (Str.ofString "_law_year", NameKind.local), (Str.ofString "tuple", NameKind.globalImplicit)], isGenerator := false, isCoroutine := false }
section
variable {P : Program} {w : World} {K : PySem.W.Frag} {mg : Str → Option Value} {base : Heap}
theorem scTup : FnScope nTup ["_law_years"] (defScope sLTuples) := ⟨rfl, rfl, rfl, by decide +kernel, rfl, by decide +kernel, by decide +kernel⟩
theorem ok_tuples {f : Addr} {fd : FuncData} (F : Fun K "_law_tuples" "_law_tuples" sLTuples f fd) (m : mg "_law_tuples" = some (.ref f)) (B : Bm mg) : HasF P w K mg base "_law_tuples" 1 ["_law_years"] spTuples := by
  refine ⟨f, fd, ?_, m, F.kp, F.binds fun _ _ _ _ _ _ us hl => match us, hl with | [_], _ => rfl⟩
  refine F.ok scTup (fun vs H Q E h => ?_) (fun cdv A outer s H vs Q E hr h => ?_)
  · obtain ⟨a, b, c, rfl, _⟩ := h
    rfl
  · obtain ⟨a, xs, ys, rfl, ha, px, n1, n2, k⟩ := h
    have lx := Paired.length px
    refine ⟨_, pss_one (ps_ret (pe_callTy call_tuple_of (by rfl) B.tuple (by decide +kernel) (pa_cons (pe_lc (own := [("_law_year", 1)]) (g := gName 1) (tt := tYes) (by rfl) scTup.nd (pi_seq (pv 0)) (blkOk_by (own := [("_law_year", 1)]) (N := nTup) (sc := defScope sLTuples) (by decide +kernel)) (fun _ _ _ _ _ => pg_name (i := 1) scTup.nd rfl (Or.inl rfl)) (fun _ _ _ _ _ => pts_nil)
      (fun _ _ _ _ _ => (pe_callTy (call_tupK (K := K) rfl) (by rfl) B.tuple (by decide +kernel) (pa_cons (pe_lc (own := [("_law_deed", 2)]) (g := gName 2) (tt := tYes) (by rfl) scTup.nd (pi_seqK (K := K) rfl (pv 1)) (blkOk_by (own := [("_law_deed", 2)]) (N := nTup) (sc := scYear4) (by decide +kernel)) (fun _ _ _ _ _ => pg_name (i := 2) scTup.nd rfl (Or.inl rfl)) (fun _ _ _ _ _ => pts_nil) (fun _ _ _ _ _ => (pe_callTy (call_tupK (K := K) rfl) (by rfl) B.tuple (by decide +kernel) (pa_cons (pv 2) pa_nil)))) pa_nil)))) pa_nil))), ?_⟩
    refine ⟨_, rfl, a, rfl, lc_pure (g := gName 1) (fun j v H' => ∀ d, ys[j]? = some d → Ds .tup H' v d) (fun j v H' H'' q s d e => (q d e).keep s) (IsSeq.lst ha) (Same.refl _) (by omega) ?_ ?_ fun x σ H Q Q' q z => q _ _ z⟩
    · rintro D i x H3 k' hi hD s3 ⟨acc, hacc⟩ kk
      obtain ⟨yr, hyr, yb, zs, rfl, hyb, pz⟩ := pr_get px hi
      have yb3 := s3 _ _ hyb
      have lz := Paired.length pz
      have ny := n2 yr (List.mem_of_getElem? hyr)
      refine ⟨rfl, ?_⟩
      refine ⟨_, rfl, yb, rfl, lc_pure (g := gName 2) (fun j v H' => ∀ d, yr[j]? = some d → Ss .tup H' v d) (fun j v H' H'' q s d e => (q d e).keep s) (IsSeq.lst yb3) (Same.refl _) (by omega) ?_ ?_ fun x σ H Q Q' q z => q _ _ z⟩
      · rintro D2 j x2 H4 k2 hj hD2 s4 ⟨acc2, hacc2⟩ kk2
        obtain ⟨d, hd, hdb⟩ := pr_get pz hj
        refine ⟨rfl, ?_⟩
        have s34 := s3.trans s4
        rcases hdb with ⟨db, rfl, hdb⟩ | ⟨db, rfl, hdb⟩
        · refine ⟨_, rfl, db, _, rfl, .inl ⟨SqL.of (s34 _ _ hdb), fun l hl => kk2 _ _ (sameUpd (Same.refl _) hl) fun d' e => ?_⟩⟩
          rw [hd] at e
          cases e
          exact ⟨l, rfl, wo_at upd_same (ne_of_none hacc2 hl).symm⟩
        · refine ⟨_, rfl, db, _, rfl, .inr ⟨SqT.of (s34 _ _ hdb), kk2 _ _ (Same.refl _) fun d' e => ?_⟩⟩
          rw [hd] at e
          cases e
          exact ⟨db, rfl, wo_at (s34 _ _ hdb) fun z => by have q := s34 _ _ hdb; rw [z, hacc2] at q; cases q⟩
      · intro D2 zs2 H4 hD2 s4 hd2 lz2 g2
        refine ⟨D2, zs2, rfl, .inl ⟨SqL.of hd2, fun l hl => kk _ _ (sameUpd s4 hl) fun d' e => ?_⟩⟩
        rw [hyr] at e
        cases e
        have lD : l ≠ D := (ne_of_none (s4 _ _ hacc) hl).symm
        refine ⟨l, zs2, rfl, wo_at upd_same lD, pr_of (by omega) fun j v d e1 e2 => ?_⟩
        obtain ⟨u, rfl, hu⟩ := (g2 j v e1 d e2)
        obtain ⟨hu2, n1⟩ := wo_get hu
        have uD : u ≠ D := fun z => by rw [z, s4 _ _ hacc] at hu2; cases hu2
        exact ⟨u, rfl, wo_at (by rw [upd_ne (ne_of_none hu2 hl)]; exact hu2) uD⟩
    · intro D zs H3 hD s3 hd3 lz3 g3
      refine ⟨D, zs, rfl, .inl ⟨SqL.of hd3, fun l hl => ?_⟩⟩
      have s5 : Same H (upd H3 l (.tup zs)) := sameUpd s3 hl
      refine k l _ (s3.free hl) s5 ⟨l, zs, rfl, upd_same, pr_of (by omega) fun j v d e1 e2 => ?_⟩
      exact (g3 j v e1 d e2).keep (wo_same.trans (sameUpd (Same.refl _) hl))
end
end Kx

set_option maxHeartbeats 8000000
namespace Kx
open PySem PySem.Spec PyProof.Rows L2
/-! slices of tuples; the same ends -/
theorem slA_from {K : PySem.W.Frag} {H : Hp} {a : Addr} {xs : List V} {m : Nat} {Q : VK} (ha : H a = some (.tup xs)) (lm : m ≤ xs.length) (k : ∀ t H', Same H H' → H' t = some (.tup (xs.drop m)) → Q (.ref t) H') : rSlA K (.ref a) (some (m : Int)) none H Q := by
  refine ⟨a, xs, rfl, SqT.of ha, fun hw => ?_, fun hw t ht => ?_⟩
  · refine k a _ (Same.refl _) ?_
    have e2 : HT.sIx xs.length 0 (some (m : Int)) = m := by
      simp [HT.sIx]
      rw [if_neg (by omega)]
      omega
    rw [e2] at hw
    rw [hw.1]
    exact ha
  · refine k t _ (sameUpd (Same.refl _) ht) ?_
    rw [cut_drop xs _ lm, upd_same]
theorem slA_to {K : PySem.W.Frag} {H : Hp} {a : Addr} {xs : List V} {m : Nat} {Q : VK} (ha : H a = some (.tup xs)) (lm : m ≤ xs.length) (k : ∀ t H', Same H H' → H' t = some (.tup (xs.take m)) → Q (.ref t) H') : rSlA K (.ref a) none (some (m : Int)) H Q := by
  refine ⟨a, xs, rfl, SqT.of ha, fun hw => ?_, fun hw t ht => ?_⟩
  · refine k a _ (Same.refl _) ?_
    have e2 : HT.sIx xs.length xs.length (some (m : Int)) = m := by
      simp [HT.sIx]
      rw [if_neg (by omega)]
      omega
    rw [e2] at hw
    rw [hw.2, List.take_length]
    exact ha
  · refine k t _ (sameUpd (Same.refl _) ht) ?_
    rw [cut_take xs _ lm, upd_same]
theorem Ys.drop {H : Hp} {m : Nat} {t : Addr} {xs : List V} {ys : List (List (List Str))} (h : H t = some (.tup (xs.drop m))) (p : Paired (Ds .tup H) xs ys) : Ys .tup H (.ref t) (ys.drop m) := ⟨t, _, rfl, h, pr_drop p _⟩
theorem Ys.take {H : Hp} {m : Nat} {t : Addr} {xs : List V} {ys : List (List (List Str))} (h : H t = some (.tup (xs.take m))) (p : Paired (Ds .tup H) xs ys) : Ys .tup H (.ref t) (ys.take m) := ⟨t, _, rfl, h, pr_take p _⟩
def spSame : Sp := fun vs H Q _ => ∃ (a b : Addr) (m : Nat) (ys zs : List (List (List Str))), vs = [.ref a, .ref b, .int (m : Nat)] ∧ Ys .tup H (.ref a) ys ∧ Ys .tup H (.ref b) zs ∧ OkY ys ∧ OkY zs ∧ ∀ H', Same H H' → Q (.bl (agreeB m ys zs)) H'
section
variable {P : Program} {w : World} {K : PySem.W.Frag} {mg : Str → Option Value} {base : Heap}
theorem scSame : FnScope ["_law_one_here", "_law_other", "_law_years"] ["_law_one_here", "_law_other", "_law_years"] (defScope sLSameEnds) := ⟨rfl, rfl, rfl, by decide +kernel, rfl, by decide +kernel, by decide +kernel⟩
theorem ok_same {f : Addr} {fd : FuncData} (F : Fun K "_law_same_ends" "_law_same_ends" sLSameEnds f fd) (m : mg "_law_same_ends" = some (.ref f)) (T : Bl mg) : HasF P w K mg base "_law_same_ends" 1 ["_law_one_here", "_law_other", "_law_years"] spSame := by
  refine ⟨f, fd, ?_, m, F.kp, F.binds fun _ _ _ _ _ _ us hl => match us, hl with | [_, _, _], _ => rfl⟩
  refine F.ok scSame (fun vs H Q E h => ?_) (fun cdv A outer s H vs Q E hr h => ?_)
  · obtain ⟨a, b, c, d, e, rfl, _⟩ := h
    rfl
  · obtain ⟨a, b, m, ys, zs, rfl, ya, yb, oy, oz, k⟩ := h
    refine ⟨_, (pss_cons (ps_if (PW.pt (pw_or (pt_cmpR op_lt (pe_callB call_len_seq (by rfl) T.len PySem.boot_len (pa_cons (pv 0) pa_nil)) (pv 2) (nomark _)) (pw_or1 (pt_cmpR op_lt (pe_callB call_len_seq (by rfl) T.len PySem.boot_len (pa_cons (pv 1) pa_nil)) (pv 2) (nomark _))))) (pss_one (ps_ret pe_bl)) pss_nil)
    (pss_one (ps_ret (pe_cmpR (op_eqD hr.units) (pe_slice sl_tupA (pv 0) (po_some (pe_op op_sub (pe_callB call_len_seq (by rfl) T.len PySem.boot_len (pa_cons (pv 0) pa_nil)) (pv 2))) po_none) (pe_slice sl_tupA (pv 1) (po_some (pe_op op_sub (pe_callB call_len_seq (by rfl) T.len PySem.boot_len (pa_cons (pv 1) pa_nil)) (pv 2))) po_none) (nomark _))))), ?_⟩
    obtain ⟨xs, hx, px⟩ := ya.cut
    obtain ⟨xs', hx', px'⟩ := yb.cut
    have lx := Paired.length px
    have lx' := Paired.length px'
    refine ⟨_, rfl, a, xs, rfl, .inr (SqT.of hx), _, rfl, _, _, rfl, rfl, _, rfl, ?_⟩
    refine ite2 (fun c1 => ?_) (fun c1 => ?_)
    · have c1 := of_decide_eq_true c1
      have ab : agreeB m ys zs = false := decide_eq_false fun z => by have := z.1; omega
      rw [ab] at k
      exact iteT (k H (Same.refl _))
    refine ⟨_, rfl, b, xs', rfl, .inr (SqT.of hx'), _, rfl, _, _, rfl, rfl, _, rfl, ?_⟩
    refine ite2 (fun c2 => ?_) (fun c2 => ?_)
    · have c2 := of_decide_eq_true c2
      have ab : agreeB m ys zs = false := decide_eq_false fun z => by have := z.2.1; omega
      rw [ab] at k
      exact k H (Same.refl _)
    have c1 : ¬ ((xs.length : Nat) : Int) < (m : Nat) := fun z => c1 (decide_eq_true z)
    have c2 : ¬ ((xs'.length : Nat) : Int) < (m : Nat) := fun z => c2 (decide_eq_true z)
    have e1 : (((xs.length : Nat) : Int) - (m : Nat)) = (((xs.length - m : Nat)) : Int) := by omega
    have e2 : (((xs'.length : Nat) : Int) - (m : Nat)) = (((xs'.length - m : Nat)) : Int) := by omega
    refine ⟨_, rfl, _, rfl, a, xs, rfl, .inr (SqT.of hx), _, rfl, _, _, rfl, rfl, _, rfl, ?_⟩
    rw [e1]
    dsimp only [tNoPart]
    refine slA_from hx (Nat.sub_le _ _) fun t H1 s1 ht => ?_
    refine ⟨_, rfl, _, rfl, b, xs', rfl, .inr (SqT.of (s1 _ _ hx')), _, rfl, _, _, rfl, rfl, _, rfl, ?_⟩
    rw [e2]
    dsimp only [tNoPart]
    refine slA_from (s1 _ _ hx') (Nat.sub_le _ _) fun t2 H2 s2 ht2 => ?_
    have s12 := s1.trans s2
    have y1 : Ys .tup H2 (.ref t) (lst' m ys) := by
      unfold lst'
      rw [← lx]
      exact Ys.drop (s2 _ _ ht) (pr_imp px fun _ _ q => q.keep s12)
    have y2 : Ys .tup H2 (.ref t2) (lst' m zs) := by
      unfold lst'
      rw [← lx']
      exact Ys.drop ht2 (pr_imp px' fun _ _ q => q.keep s12)
    refine ⟨dYs (lst' m ys), dYs (lst' m zs), y1.dp, y2.dp, shaped_dYs (oy.drop m), shaped_dYs (oz.drop m), ?_⟩
    rw [eqv_dYs]
    have ab : agreeB m ys zs = decide (lst' m ys = lst' m zs) := decide_eq_decide.mpr ⟨fun z => z.2.2, fun z => ⟨by omega, by omega, z⟩⟩
    rw [ab] at k
    exact k H2 s12
end
end Kx

set_option maxHeartbeats 4000000
namespace Kx
open PySem PySem.Spec PyProof.Rows L2 GenW
/-! a generator whose items a block works on before it asks for the next one -/
/-- while the generator sleeps, only what lies at O changes -/
structure Doze (O : List Addr) (s s' : Shared) : Prop where
  os : s'.os = s.os
  bare : AllBare s'.gens
  keep : ∀ b o, b ∉ O → s.heap.get? b = some o → s'.heap.get? b = some o
  there : ∀ b ∈ O, ∃ o, s'.heap.get? b = some o ∧ ∀ v, o.data ≠ .cell v
/-- what lies at O isn't the generator's own -/
def Off (X : Cx) (O : List Addr) : Prop := ∀ b ∈ O, X.s_0.heap.objs.size ≤ b ∧ b ≠ X.env.locals ∧ ∀ x c, X.env.cells.lookup x = some c → c ≠ b
def Lie (O : List Addr) (s : Shared) : Prop := ∀ b ∈ O, ∃ o, s.heap.get? b = some o ∧ ∀ v, o.data ≠ .cell v
theorem pin_at {X : Cx} {O : List Addr} {σ : L2.St} {H : Hp} {s s₀ : Shared} {ip : List (Addr × Obj)} (I : Inv X (pinsAt O s₀.heap ++ ip) σ H s) (l : Lie O s₀) {b : Addr} (hb : b ∈ O) : ∃ o, s₀.heap.get? b = some o ∧ s.heap.get? b = some o ∧ H b = none ∧ b ≠ X.env.locals ∧ b ∉ X.fs ∧ ∀ v, o.data ≠ .cell v := by
  obtain ⟨o, e, d⟩ := l b hb
  obtain ⟨h1, h2, h3, h4, _⟩ := I.pin (b, o) (List.mem_append_right _ (List.mem_append_left _ (mem_pinsAt hb e)))
  exact ⟨o, e, h1, h2, h3, h4, d⟩
theorem dozed {X : Cx} {O : List Addr} {σ : L2.St} {H : Hp} {s s' s₀ : Shared} {ip : List (Addr × Obj)} (off : Off X O) (pn : X.pn = []) (l : Lie O s₀) (hip : ∀ p ∈ ip, p.1 ∉ O) (I : Inv X (pinsAt O s₀.heap ++ ip) σ H s) (z : Doze O s s') : Inv X (pinsAt O s'.heap ++ ip) σ H s' := by
  have I0 : Inv X ip σ H s := I.pins_of fun p hp => I.pin p (List.mem_append_right _ (List.mem_append_right _ hp))
  have at_ := fun {b : Addr} (hb : b ∈ O) => pin_at I l hb
  have nO : ∀ b u, H b = some u → b ∉ O := fun b u e hb => by
    obtain ⟨_, _, _, n, _⟩ := at_ hb
    rw [n] at e; cases e
  obtain ⟨z1, z2, z3, z4⟩ := z
  obtain ⟨hh, g, d, t, o⟩ := s'
  have ho : o = s.os := z1
  subst ho
  have J : Inv X ip σ H { s with heap := hh, gens := g, drawn := d, toks := t } := by
    refine I0.step (g' := g) (t' := t) (d' := d) (ch := O) (fun b hb => ?_)
      (fun b ob _ _ hc q _ => z3 b ob hc q) (fun b ob _ _ hc q _ => ⟨ob.slots, z3 b ob hc q⟩) (fun _ _ _ _ n => n) (fun b ob hc q => ⟨ob, z3 b ob hc q⟩)
      (fun _ _ q => q) (fun _ _ _ q => q) (fun b ps q => ⟨#[], by rw [q]; simp⟩) (fun m hm => ?_) (fun b u q => ?_) z2
    · obtain ⟨a1, a2, a3⟩ := off b hb
      refine ⟨.inr a1, a2, a3, fun p hp e => ?_⟩
      rw [pn] at hp
      exact hip p hp (by rw [e]; exact hb)
    · obtain ⟨ob, es, ep, ho, r⟩ := hm
      exact ⟨ob, es, ep, z3 _ ob (fun hb => (off _ hb).2.1 rfl) ho, r⟩
    · refine (I0.hok b u q).stay (fun c v hc y => z3 c v ?_ y) (fun _ y => y) fun _ _ y => y
      rcases hc with y | y
      · rw [y]; exact nO b u q
      · exact nO c _ y
  refine J.pins_of fun p hp => ?_
  rcases List.mem_append.mp hp with hp | hp
  · obtain ⟨hb, e⟩ := of_pinsAt hp
    obtain ⟨_, _, _, n, nl, nf, _⟩ := at_ hb
    obtain ⟨o2, e2, d2⟩ := z4 p.1 hb
    have e : hh.get? p.1 = some p.2 := e
    have e2 : hh.get? p.1 = some o2 := e2
    rw [e] at e2
    cases e2
    exact ⟨e, n, nl, nf, d2⟩
  · exact J.pin p (List.mem_append_right _ hp)
/-- the values in the list that who asks is filling -/
def Full (D : Addr) (s : Shared) (zs : List V) : Prop := ∃ (acc : Array Value) (c : Nat), s.heap.get? D = some (lstObj acc c) ∧ Vals zs acc.toList
/-- who asks has worked on y: one value more stands in its list -/
def Put (D : Addr) (El : Hp → V → V → Prop) (H : Hp) (y : V) (s s' : Shared) (z : V) : Prop := El H y z ∧ ∀ zs, Full D s zs → Full D s' (zs ++ [z])
/-- an item is handed out: what lies at O is as it was when the turn began -/
def DY (X : Cx) (O : List Addr) (D : Addr) (El : Hp → V → V → Prop) (P : Nat → List V → V → Hp → Prop) : Protocol := fun n s₀ v s kap =>
  ∃ y σ H zs, RelV y v ∧ Lie O s₀ ∧ Inv X (pinsAt O s₀.heap) σ H s ∧ Full D s₀ zs ∧ P n zs y H ∧ ∀ z s', Doze O s s' → Put D El H y s s' z → kap (.send .none) s'
def DR (X : Cx) (O : List Addr) (D : Addr) (Q : Nat → List V → Hp → Prop) : GenEnd := fun n s₀ r s => (r = .ok (.ret .none) ∨ r = .ok .next) ∧ ∃ σ H zs, Lie O s₀ ∧ Inv X (pinsAt O s₀.heap) σ H s ∧ Full D s₀ zs ∧ Q n zs H
theorem full_pin {X : Cx} {O : List Addr} {D : Addr} {σ : L2.St} {H : Hp} {s s₀ : Shared} {zs : List V} {ip : List (Addr × Obj)} (hD : D ∈ O) (I : Inv X (pinsAt O s₀.heap ++ ip) σ H s) (l : Lie O s₀) (f : Full D s₀ zs) : Full D s zs := by
  obtain ⟨acc, c, e, r⟩ := f
  obtain ⟨o, e1, e2, _⟩ := pin_at I l hD
  rw [e] at e1
  cases e1
  exact ⟨acc, c, e2, r⟩
section
variable {X : Cx} {O : List Addr} {P : Nat → List V → V → Hp → Prop} {Q : Nat → List V → Hp → Prop} {El : Hp → V → V → Prop} {D S : Addr} {A : Around} {R : GenEnd} {c : Code} {fs : List Frame} {gd : Bool → Bool}
theorem mono0 {α : Type} {t : Sem α} {Qa Qb : α → Shared → Prop} {M : Model} {B : Around} {E : Value → Shared → Prop} {E2 : Value → Shared → Prop} {s : Shared} (h : wpAny M B t Qa E s) (hE : ∀ e s, ¬ E e s) (hQ : ∀ a s, Qa a s → Qb a s) : wpAny M B t Qb E2 s := wpAny_mono h hQ fun e s z => absurd z (hE e s)
theorem gen_for {tg iter e : Expr} {yp bp pos : Pos} {wi : TI} {g : TG} {te : TE} {n : Nat} {zs : List V} {s₀ s : Shared} {σ : L2.St} {H : Hp} {K : Flow → Sem PySem.Fin} {J : Value → Sem PySem.Fin} {lv : List Value → List Value}
    (hxe : ∀ e s, ¬ X.xe e s) (hc : X.calm = true) (hi : PI X tg iter wi) (hg : PG X tg g) (he : PE X e te) (hco : X.env.scope.isCoroutine = false) (hin : interactive X.env = false) (hs : ∀ x, foldedSetIterable iter X.env x = pure x)
    (G : GC X S [] A c fs gd) (off : Off X O) (pn : X.pn = []) (l : Lie O s₀) (hD : D ∈ O) (fz : Full D s₀ zs) (I : Inv X (pinsAt O s₀.heap) σ H s)
    (h : wi σ H fun J H1 => ∃ W : Nat → Nat → List V → L2.St → Hp → Prop, W 0 n zs σ H1 ∧ ∀ i m zs σ H, W i m zs σ H → (J.stop i H ∧ Q m zs H) ∨ (J.go i H ∧ ∃ m', m = m' + 1 ∧ ∀ x H', J.yld i H x H' → g x σ H' fun σ2 H2 => te σ2 H2 fun y H3 => P m' zs y H3 ∧ ∀ z, El H3 y z → W (i + 1) m' (zs ++ [z]) σ2 H3))
    (fin : ∀ n s₀ s σ H zs, Lie O s₀ → Inv X (pinsAt O s₀.heap) σ H s → Full D s₀ zs → Q n zs H → Seg (model X.prog X.w) A R (DY X O D El P) n s₀ c (K .next) fs s) :
    Seg (model X.prog X.w) A R (DY X O D El P) n s₀ c ((exec (.For tg iter [.Expr (.Yield (some e) yp) bp] [] pos) X.env).wrap K J gd lv) fs s := by
  rw [exec_For]
  refine seg_bind_wrap (wpAny_standAt ?_)
  refine seg_bind_wrap ?_
  rw [G.over]
  refine mono0 (hi.run _ s σ H _ I h) hxe fun x s1 h1 => ?_
  refine seg_bind_wrap (wpAny_of_eq (hs x) ?_)
  refine seg_bind_wrap (wpAny_standAt ?_)
  refine seg_bind_wrap ?_
  rw [G.over]
  refine wpAny_holding (mono0 h1 hxe fun itv s2 h2 => ?_)
  obtain ⟨it, fp, tn, J', H2, ev, I2, T, st2, f2, W, w0, turn⟩ := h2
  subst ev
  refine seg_call fun p => ?_
  have gl := fun (kk : Result → Sem PySem.Fin) => gc_loop (k := kk) (c' := .forLoop tg (.ref it) [.Expr (.Yield (some e) yp) bp] [] X.env) (l := lv []) (kp := []) (p := p) G rfl rfl
  have fO : ∀ b ∈ fp, b ∉ O := fun b hb hO => by
    obtain ⟨o, e1, _⟩ := l b hO
    exact (f2 b hb).2.2.2.2.2 (b, o) (List.mem_append_right _ (mem_pinsAt hO e1)) rfl
  have stat : ∀ {H' : Hp} {s₀ : Shared}, (∀ b ∈ fp, H' b = none) → ∀ b ∈ fp, FpOk X (pinsAt O s₀.heap) H' b := fun {H' s₀} hn b hb => by
    obtain ⟨_, q1, q2, q3, q4, _⟩ := f2 b hb
    refine ⟨hn b hb, q1, q2, q3, q4, fun p hp z => ?_⟩
    rw [pn] at hp
    exact fO b hb (by rw [← z]; exact (of_pinsAt hp).1)
  have loop : ∀ (n i : Nat) (s₀ s : Shared) (σ : L2.St) (H : Hp) (zs : List V), W i n zs σ H → Lie O s₀ → Full D s₀ zs → Inv X (pinsAt O s₀.heap) σ H s → tn i s.heap → (∀ b ∈ fp, H b = none) →
      Seg (model X.prog X.w) A R (DY X O D El P) n s₀ (.forLoop tg (.ref it) [.Expr (.Yield (some e) yp) bp] [] X.env) ((model X.prog X.w).den (.forLoop tg (.ref it) [.Expr (.Yield (some e) yp) bp] [] X.env))
        (.ret (fun r => ((match r with | .ok f => (.pure f : Sem Flow) | .error e => .raise e).onRaise (cameBack X.env)).wrap K J gd lv) none (gd false) (lv []) c p [] :: fs) s := by
    have stopped : ∀ (n i : Nat) (s₀ s : Shared) (σ : L2.St) (H : Hp) (zs : List V), J'.stop i H → Q n zs H → Lie O s₀ → Full D s₀ zs → Inv X (pinsAt O s₀.heap) σ H s → tn i s.heap → (∀ b ∈ fp, H b = none) →
      Seg (model X.prog X.w) A R (DY X O D El P) n s₀ (.forLoop tg (.ref it) [.Expr (.Yield (some e) yp) bp] [] X.env) ((model X.prog X.w).den (.forLoop tg (.ref it) [.Expr (.Yield (some e) yp) bp] [] X.env))
        (.ret (fun r => ((match r with | .ok f => (.pure f : Sem Flow) | .error e => .raise e).onRaise (cameBack X.env)).wrap K J gd lv) none (gd false) (lv []) c p [] :: fs) s := by
      intro n i s₀ s σ H zs stop q l fz I st hf
      show Seg _ _ _ _ _ _ _ (Sem.onRaise _ _) _ _
      rw [Sem.onRaise_eq_wrap]
      simp only [forTurn]
      refine seg_bind_wrap (wpAny_standAt ?_)
      refine seg_bind_wrap (wpAny_onRaise ?_)
      rw [(gl _).over]
      refine mono0 (T.done X rfl rfl rfl hc i _ s σ H X.xe I (stat hf) st stop) hxe fun r s3 ⟨hr, I3⟩ => ?_
      subst hr
      refine seg_again rfl ?_
      exact seg_leaf (.ok .next) (fin n s₀ s3 σ H zs l I3 fz q)
    intro n
    induction n with
    | zero =>
      intro i s₀ s σ H zs w l fz I st hf
      rcases turn i 0 zs σ H w with ⟨stop, q⟩ | ⟨_, m', e, _⟩
      · exact stopped 0 i s₀ s σ H zs stop q l fz I st hf
      · exact absurd e (by omega)
    | succ n ih =>
      intro i s₀ s σ H zs w l fz I st hf
      rcases turn i (n + 1) zs σ H w with ⟨stop, q⟩ | ⟨go, m', e, step⟩
      · exact stopped (n + 1) i s₀ s σ H zs stop q l fz I st hf
      · have e : m' = n := by omega
        subst e
        show Seg _ _ _ _ _ _ _ (Sem.onRaise _ _) _ _
        rw [Sem.onRaise_eq_wrap]
        simp only [forTurn]
        refine seg_bind_wrap (wpAny_standAt ?_)
        refine seg_bind_wrap (wpAny_onRaise ?_)
        rw [(gl _).over]
        refine mono0 (T.item X rfl rfl rfl hc i _ s σ H X.xe I (stat hf) st go) hxe fun r s3 ⟨u, hr, h3⟩ => ?_
        subst hr
        dsimp only
        refine seg_bind_wrap ?_
        rw [(gl _).over]
        refine mono0 h3 hxe fun _ s4 ⟨x, H4, I4, r4, y4, st4, hf4⟩ => ?_
        have I4' := I4.pinned (stat hf4) (T.obj _ _ st4)
        refine seg_bind_wrap ?_
        rw [(gl _).over]
        refine mono0 (hg.run _ s4 σ H4 x u _ I4' r4 (step x H4 y4)) hxe fun _ s5 ⟨σ5, H5, I5, q5⟩ => ?_
        rw [Sem.bind_eq_wrap', Sem.wrap_wrap]
        refine seg_execs_cons ?_
        refine seg_Expr_Yield (gl (fun r => ((match r with | .ok f => (.pure f : Sem Flow) | .error e => .raise e).onRaise (cameBack X.env)).wrap K J gd lv)).split rfl (gl (fun r => ((match r with | .ok f => (.pure f : Sem Flow) | .error e => .raise e).onRaise (cameBack X.env)).wrap K J gd lv)).guard ?_ hco hin
        rw [(gl _).over]
        refine mono0 (he.run _ s5 σ5 H5 _ I5 q5) hxe fun v s6 ⟨y, H6, I6, ry, py, w6⟩ kap hk => ?_
        refine ⟨y, σ5, H6, zs, ry, l, I6.unpinned, fz, py, fun zz s7 z ⟨pz, pz2⟩ => hk .none s7 ?_⟩
        have I7 := dozed off pn l (fun p hp hO => fO p.1 (of_pinsAt hp).1 hO) I6 z
        refine seg_execs_nil ?_
        refine seg_again rfl ?_
        refine ih (i + 1) s7 s7 σ5 H6 (zs ++ [zz]) (w6 zz pz) z.there (pz2 zs (full_pin hD I6 l fz)) I7.unpinned (T.keep _ _ _ st4 fun b hb o eo => ?_) fun b hb => ?_
        · exact (I7.pin (b, o) (List.mem_append_right _ (List.mem_append_right _ (mem_pinsAt hb eo)))).1
        · obtain ⟨o, eo, _⟩ := T.obj _ _ st4 b hb
          exact (I7.pin (b, o) (List.mem_append_right _ (List.mem_append_right _ (mem_pinsAt hb eo)))).2.1
  exact loop n 0 s₀ s2 σ H2 zs w0 l fz I2 st2 fun b hb => (f2 b hb).1
end
end Kx

set_option maxHeartbeats 4000000
namespace Kx
open PySem PySem.Spec PyProof.Rows L2 GenW
/-! a def of such a generator; what its call gives -/
/-- the context of its body: nothing is raised -/
abbrev gX (P : Program) (w : World) (K : PySem.W.Frag) (mg : Str → Option Value) (base : Heap) (N : List Str) (qual : Str) (scope : Scope) (f : Addr) (cd : Value) (A : Around) (outer : List Env) (s : Shared) (H : Hp) : Cx :=
  { gcxOf P w K mg base N qual scope f cd A outer s H (fun _ _ _ => False) [] with xe := fun _ _ => False }
/-- in the words of who asks: since the call only the generator's frame and what is new has changed, and what lies at O is as it was when the turn began -/
structure Came (P : Program) (w : World) (outer : List Env) (H : Hp) (s : Shared) (O : List Addr) (D : Addr) (s₀ s1 : Shared) (H' : Hp) (zs : List V) : Prop where
  full : Full D s₀ zs
  lie : Lie O s₀
  same : ∀ b ∈ O, s1.heap.get? b = s₀.heap.get? b ∧ H' b = none
  os : s1.os = s.os
  bare : AllBare s1.gens
  un : Un (frs outer) [] H H' s.heap s1.heap
  hok : HOk P w H' s1.heap
def CY (P : Program) (w : World) (outer : List Env) (H : Hp) (s : Shared) (O : List Addr) (D : Addr) (El : Hp → V → V → Prop) (Pn : Nat → List V → V → Hp → Prop) : Protocol := fun n s₀ v s1 kap => ∃ y H' zs, RelV y v ∧ Came P w outer H s O D s₀ s1 H' zs ∧ Pn n zs y H' ∧ ∀ z s', Doze O s1 s' → Put D El H' y s1 s' z → kap (.send .none) s'
def CR (P : Program) (w : World) (outer : List Env) (H : Hp) (s : Shared) (O : List Addr) (D : Addr) (Qn : Nat → List V → Hp → Prop) : GenEnd := fun n s₀ r s1 => ((r = .ok (.ret .none) ∨ r = .ok .next) ∧ ∃ H' zs, Came P w outer H s O D s₀ s1 H' zs ∧ Qn n zs H') ∨ ∃ e, r = .error e ∧ (fun (_ : Value) (_ : Shared) => False) e s1
/-- a generator that has not begun; at most n items come -/
def GenOf (P : Program) (w : World) (k : Nat) (outer : List Env) (H : Hp) (s : Shared) (n : Nat) (El : Hp → V → V → Prop) (Pn : Nat → List V → V → Hp → Prop) (Qn : Nat → List V → Hp → Prop) (u : Value) (s' : Shared) : Prop :=
  ∃ (a : Addr) (g : Nat) (c : Code), u = .ref a ∧ s.heap.objs.size < a ∧ s'.heap.objs.size = a + 1 ∧ s'.heap.IsGen a g ∧ s'.gens[g]? = some (.fresh c) ∧ s'.os = s.os ∧ AllBare s'.gens ∧ s'.heap.NoLimit ∧ (∀ b o, s.heap.get? b = some o → s'.heap.get? b = some o) ∧
    ∀ (A : Around) (O : List Addr) (D : Addr) (s2 : Shared), Room k A → A.frames = some outer → (∀ b ∈ O, a ≤ b) → D ∈ O → Full D s2 [] → Lie O s2 → (∀ b o, s'.heap.get? b = some o → s2.heap.get? b = some o) → s2.os = s.os → AllBare s2.gens →
      Seg (model P w) A (CR P w outer H s O D Qn) (CY P w outer H s O D El Pn) n s2 c ((model P w).den c) [] s2
abbrev SpY := List V → Hp → Nat → (Hp → V → V → Prop) → (Nat → List V → V → Hp → Prop) → (Nat → List V → Hp → Prop) → Prop
structure YFn (P : Program) (w : World) (K : PySem.W.Frag) (mg : Str → Option Value) (base : Heap) (k : Nat) (f : Addr) (fd : FuncData) (ps : List Str) (sp : SpY) : Prop where
  len : ∀ vs H n El Pn Qn, sp vs H n El Pn Qn → vs.length = ps.length
  run : ∀ (A : Around) (outer : List Env) (s : Shared) (H : Hp) (args : Args) (us : List Value) (vs : List V) (n : Nat) (El : Hp → V → V → Prop) (Pn : Nat → List V → V → Hp → Prop) (Qn : Nat → List V → Hp → Prop), Room k A → Env0 P w K mg base A outer s H → BindsTo s fd args (ps.zip us) → Vals vs us → sp vs H n El Pn Qn →
    codeAny (model P w) A (.call (.ref f) args) (fun r s' => match r with | .ok (.ret u) => GenOf P w k outer H s n El Pn Qn u s' | _ => False) s
theorem yfn_of {P : Program} {w : World} {K : PySem.W.Frag} {mg : Str → Option Value} {base : Heap} {k : Nat} {f : Addr} {name qual : Str} {params : Arguments} {body : List Stmt} {scope : Scope} {dV kV doc pm cdv ct oc : Value} {an od : Option Addr}
    {osl : Array (Option Value)} {N ps : List Str} {sp : SpY} (lk : K.lookup f = some ⟨oc, od, .func (PySem.W.fnOf name qual params body scope dV kV doc pm an cdv ct), osl⟩) (hcd : PySem.W.codeIn K cdv qual = true) (S : GScope N ps scope) (nc : ∀ n, cellsFrom n scope.names [] = [])
    (len : ∀ vs H n El Pn Qn, sp vs H n El Pn Qn → vs.length = ps.length)
    (hbody : ∀ (A : Around) (outer : List Env) (s : Shared) (H : Hp) (vs : List V) (n : Nat) (El : Hp → V → V → Prop) (Pn : Nat → List V → V → Hp → Prop) (Qn : Nat → List V → Hp → Prop), Room k (A.deeper (envOfC qual scope s.heap.objs.size f cdv)) → sp vs H n El Pn Qn →
      ∀ (O : List Addr) (D Sx : Addr) (c : Code) (fs : List Frame) (R : GenEnd) (Kf : Flow → Sem PySem.Fin) (J : Value → Sem PySem.Fin) (gd : Bool → Bool) (lv : List Value → List Value) (s₀ s1 : Shared),
        GC (gX P w K mg base N qual scope f cdv A outer s H) Sx [] A c fs gd → Off (gX P w K mg base N qual scope f cdv A outer s H) O → Lie O s₀ → D ∈ O → Full D s₀ [] → Inv (gX P w K mg base N qual scope f cdv A outer s H) (pinsAt O s₀.heap) (start N vs) H s1 →
        (∀ n s₀ s1 σ H' zs, Lie O s₀ → Inv (gX P w K mg base N qual scope f cdv A outer s H) (pinsAt O s₀.heap) σ H' s1 → Full D s₀ zs → Qn n zs H' → Seg (model P w) A R (DY (gX P w K mg base N qual scope f cdv A outer s H) O D El Pn) n s₀ c (Kf .next) fs s1) →
        Seg (model P w) A R (DY (gX P w K mg base N qual scope f cdv A outer s H) O D El Pn) n s₀ c ((execs body (gX P w K mg base N qual scope f cdv A outer s H).env).wrap Kf J gd lv) fs s1) :
    YFn P w K mg base (k + 1) f (PySem.W.fnOf name qual params body scope dV kV doc pm an cdv ct) ps sp := by
  refine ⟨len, fun A outer s H args us vs n El Pn Qn hr e0 hb r hsp => ?_⟩
  have hl := len _ _ _ _ _ _ hsp
  have KX : K.In s.heap := e0.mod.kin.keeps fun b o e => (e0.bs b o e).1
  have lim : s.heap.NoLimit := e0.mod.nolimit.keeps fun b o e => (e0.bs b o e).1
  have hkind : ∀ y ∈ ps.zip us, scope.names.lookup y.1 = some .local ∨ (scope.names.lookup y.1 = some .cell ∧ ((cellsFrom (s.heap.objs.size + 1) scope.names []).lookup y.1).isSome = true) := fun ⟨m, v⟩ hy => by
    rcases S.par m (List.of_mem_zip hy).1 with q | q
    · exact .inl q
    · exact .inr ⟨q, PySem.W.cellsFrom_some _ _ _ (.inl q)⟩
  refine codeAny_call_generator hr.depth (KX _ _ lk) rfl S.co S.gen rfl (PySem.W.codeRec_of KX hcd) (hb _ _ _ _ ?_)
  refine wpAny_newFunctionEnv_cells S.kind hkind fun env he s1 x => ?_
  subst he
  have lim1 : s1.heap.NoLimit := lim.keeps x.toInCall.keep
  refine ⟨lim1, ?_⟩
  obtain ⟨_, _, es1, _⟩ := x.done
  have os1 : s1.os = s.os := by rw [es1]
  have gen1 : s1.gens = s.gens := by rw [es1]
  have lt1 : s.heap.objs.size < s1.heap.objs.size := x.toInCall.ns.lt
  have made : ∀ (go : Obj) (nm qn : Value) (tk2 : Nat), go.cls = .type "generator" → go.data = .fields #[.int s1.gens.size 0, nm, qn] → go.slots = #[] → (∀ h : Heap, (h.push go).get? h.objs.size = some go) →
      GenOf P w (k + 1) outer H s n El Pn Qn (.ref s1.heap.objs.size) { s1 with gens := s1.gens.push (.fresh (.func body (envOfC qual scope s.heap.objs.size f cdv))), toks := tk2, heap := s1.heap.push go } := by
    intro go nm qn tk2 hgc hgd0 hgs hgp
    refine ⟨s1.heap.objs.size, s1.gens.size, _, rfl, lt1, Heap.size_push .., ⟨go, nm, qn, hgp _, hgc, hgd0, hgs⟩, Array.getElem?_push_size .., os1, AllBare.push (by rw [gen1]; exact e0.bare) rfl, lim1.keeps fun b o e => Heap.get?_push_of_some _ e, fun b o e => Heap.get?_push_of_some _ (x.toInCall.keep b o e), ?_⟩
    intro Aw O D s2 hrw hfr hO hD fz lie hk2 hos hba
    have e0w : Env0 P w K mg base Aw outer s H := ⟨hfr, e0.mod, e0.bs, e0.bsz, e0.funs, e0.frf, e0.hok, e0.bare⟩
    have I0 : Inv (gcxOf P w K mg base N qual scope f cdv Aw outer s H (fun _ _ _ => False) []) [] (start N vs) H s1 := inv_startG S hrw.hd e0w hl r x
    have I1 : Inv (gX P w K mg base N qual scope f cdv Aw outer s H) [] (start N vs) H s1 :=
      ⟨⟨I0.ok.mod, I0.ok.kind, I0.ok.glob, I0.ok.blt, I0.ok.above, I0.ok.inj, I0.ok.has, I0.ok.cab, I0.ok.hd, I0.ok.frames, I0.ok.stk, I0.ok.exf, I0.ok.bs, I0.ok.bsz, I0.ok.noex, I0.ok.exfs, I0.ok.funs, I0.ok.frf⟩, I0.os, I0.bare, I0.base, I0.loc, I0.cell, I0.free, I0.freeC, I0.pin, I0.hok, I0.len⟩
    have kp2 : ∀ b o, s1.heap.get? b = some o → s2.heap.get? b = some o := fun b o e => hk2 b o (Heap.get?_push_of_some _ e)
    have I2 := I1.call' (ch := []) (hos.trans os1.symm) (Un.kept kp2) (I1.hok.kept kp2) hba fun b z => by simp at z
    have noC : ∀ y c, (cellsFrom (s.heap.objs.size + 1) scope.names []).lookup y = some c → False := fun y c e => by rw [nc] at e; cases e
    have off : Off (gX P w K mg base N qual scope f cdv Aw outer s H) O := fun b hb => ⟨Nat.le_of_lt (Nat.lt_of_lt_of_le lt1 (hO b hb)), Nat.ne_of_gt (Nat.lt_of_lt_of_le lt1 (hO b hb)), fun y c e => (noC y c e).elim⟩
    have I3 : Inv (gX P w K mg base N qual scope f cdv Aw outer s H) (pinsAt O s2.heap) (start N vs) H s2 := I2.pinned (fun b hb => ⟨I1.hok.fresh (hO b hb), (off b hb).2.1, I1.nofs (hO b hb), .inr (off b hb).1, (off b hb).2.2, fun p hp => absurd (show p ∈ ([] : List (Addr × Obj)) ++ [] from hp) (by simp)⟩) lie
    have came : ∀ {s₀ s' : Shared} {σ : L2.St} {H' : Hp} {zs : List V}, Lie O s₀ → Inv (gX P w K mg base N qual scope f cdv Aw outer s H) (pinsAt O s₀.heap) σ H' s' → Full D s₀ zs → Came P w outer H s O D s₀ s' H' zs := fun {s₀ s' σ H' zs} l I fz => by
      refine ⟨fz, l, fun b hb => ?_, I.os, I.bare, I.base, I.hok⟩
      obtain ⟨o, e1, e2, e3, _⟩ := pin_at (ip := []) (by rw [List.append_nil]; exact I) l hb
      exact ⟨e2.trans e1.symm, e3⟩
    refine seg_imp (R := DR (gX P w K mg base N qual scope f cdv Aw outer s H) O D Qn) (Y := DY (gX P w K mg base N qual scope f cdv Aw outer s H) O D El Pn) (fun n s₀ r s' ⟨h1, σ, H', zs, l, I, fz, q⟩ => .inl ⟨h1, H', zs, came l I fz, q⟩)
      (fun n s₀ v s' kap kap' hkk ⟨y, σ, H', zs, ry, l, I, fz, q, hk⟩ => ⟨y, H', zs, ry, came l I fz, q, fun zz s'' z z2 => hkk _ _ (hk zz s'' z z2)⟩) n ?_
    refine seg_func ?_
    refine hbody Aw outer s H vs n El Pn Qn (hrw.deeper _) hsp O D s1.heap.objs.size _ [] _ _ _ id id s2 s2 ⟨fun p hp => absurd (show p ∈ ([] : List (Addr × Obj)) from hp) (by simp), fun p hp => absurd (show p ∈ ([] : List (Addr × Obj)) from hp) (by simp), ⟨Nat.le_of_lt lt1, Nat.ne_of_gt lt1, fun y c e => (noC y c e).elim⟩, over_func, rfl, rfl, rfl⟩ off lie hD fz I3 fun n s₀ s' σ H' zs l I fz q => ?_
    exact seg_end (.ok (.ret .none)) ⟨.inl rfl, σ, H', zs, l, I, fz, q⟩
  exact made _ _ _ _ rfl rfl rfl fun h => Heap.get?_push_size _ rfl
end Kx

set_option maxHeartbeats 4000000
namespace Kx
open PySem PySem.Spec PyProof.Rows L2 GenW
/-! [e for x in g] where g is such a generator -/
/-- an expression that leaves all as it is -/
structure PQ (X : Cx) (e : Expr) (t : TE) : Prop where
  run : ∀ (pins : List (Addr × Obj)) (s : Shared) (σ : L2.St) (H : Hp) (Q : VK), Inv X pins σ H s → t σ H Q →
    wpAny (model X.prog X.w) X.A (eval e X.env) (fun u s' => (∃ tk, s' = { s with toks := tk }) ∧ ∃ y, RelV y u ∧ Q y H) X.xe s
section
variable {X : Cx} {o e : Expr} {f : Str} {pos : Pos} {ta : TE}
theorem pq_var {i : Nat} {x : Str} (hN : X.N[i]? = some x) (hv : X.env.scope.names.lookup x = some .local) (hd : (x == ("__debug__" : Str)) = false := by decide) : PQ X (.Name x pos) (tVar i) := by
  refine ⟨fun pins s σ H Q I h => ?_⟩
  obtain ⟨v, ev, h⟩ := h
  obtain ⟨m, hn, hl⟩ := I.loc
  obtain ⟨u, r, l⟩ := hl i x v hN ev (.inl hv)
  have hk : X.env.kindOf x = some .local := hv
  rcases l with ⟨_, hm⟩ | ⟨k, _⟩
  · exact wpAny_Name (wpAny_loadName_local I.ok.kind hk hn hm ⟨⟨s.toks, rfl⟩, v, r, h⟩) hd
  · rw [hk] at k
    rcases k with k | k <;> cases k
theorem pq_fld (he : PQ X e ta) (hb : attributeBase e f X.env (eval e X.env) = eval e X.env) : PQ X (.Attribute e f pos) (tFld X.K ta f) := by
  refine ⟨fun pins s σ H Q I h => ?_⟩
  refine attr_of hb (thn (he.run pins s σ H _ I h) fun u s1 ⟨⟨tk, es⟩, x, rx, a, C, dx, fs, v, ex, ea, c, n, l, q⟩ => ?_)
  subst ex
  obtain rfl : u = Value.ref a := rx
  subst es
  have I1 := I.tok tk
  obtain ⟨mA, O, r, _, _, _⟩ := ins_get I1.hok ea
  obtain ⟨u2, hu, ru⟩ := RelO.some_of (v := v) (o := mA f) (by rw [← l]; exact r f)
  exact get_map I1.kIn O (c.get f) c.hd n hu (handed_of ru) ⟨⟨_, rfl⟩, v, ru, q⟩
end
/-- an expression whose value is such a generator -/
abbrev TYG := L2.St → Hp → Nat → (Hp → V → V → Prop) → (Nat → List V → V → Hp → Prop) → (Nat → List V → Hp → Prop) → (Hp → Prop) → Prop
structure PYG (X : Cx) (k : Nat) (e : Expr) (tg : TYG) : Prop where
  run : ∀ (pins : List (Addr × Obj)) (s : Shared) (σ : L2.St) (H : Hp) (n : Nat) (El : Hp → V → V → Prop) (Pn : Nat → List V → V → Hp → Prop) (Qn : Nat → List V → Hp → Prop) (R : Hp → Prop), Inv X pins σ H s → tg σ H n El Pn Qn R →
    wpAny (model X.prog X.w) X.A (eval e X.env) (fun u s' => ∃ H1 sc, Inv X pins σ H1 sc ∧ GenOf X.prog X.w k X.stack H1 sc n El Pn Qn u s' ∧ R H1) X.xe s
def tMethY (C : Addr) (m : Str) (sp : SpY) (ta : TE) : TYG := fun σ H n El Pn Qn R => ta σ H fun x H1 => ∃ a dx fs, x = .ref a ∧ H1 a = some (.ins C dx fs) ∧ fs.lookup m = none ∧ sp [x] H1 n El Pn Qn ∧ R H1
theorem pyg_meth0 {X : Cx} {k : Nat} {f C : Addr} {fd : FuncData} {ps : List Str} {sp : SpY} {m : Str} {pos' apos : Pos} {o : Expr} {ta : TE} {pl : Sem Bool} (he : PE X o ta) (c : Cls X.K C) (hm : Meth X.K C m f) (F : YFn X.prog X.w X.K X.mg X.base k f fd ps sp) (hr : Room k X.A) (hb : Binds X.K fd ps [])
    (ht : eval (.Call (.Attribute o m apos) [] [] pos') X.env = (do
      let ov ← eval o X.env
      standAt apos.atName
      let (f, first) ← holding [ov] (getMethod ov m pl)
      callWith pos' f first (backTo pos' (starEach [] X.env)) (backToKw pos' (keywordEach [] X.env))) := by rfl) :
    PYG X k (.Call (.Attribute o m apos) [] [] pos') (tMethY C m sp ta) := by
  refine ⟨fun pins s σ H n El Pn Qn R I h => ?_⟩
  refine PySem.W.methodCall_KW (pl := pl) (thn (he.run pins s σ H _ I h) fun u s1 ⟨x, H1, I1, rx, a, dx, fs, ex, ea, l, hsp, q⟩ => ?_) ht
  subst ex
  obtain rfl : u = Value.ref a := rx
  refine getmeth_ok I1 ea c hm l ?_
  refine PySem.W.callWith_K0 (first := [.ref a]) I1.kIn hm.kp (wpAny_call (codeAny_mono (F.run X.A X.stack s1 H1 ⟨[.ref a], []⟩ [.ref a] [.ref a] n El Pn Qn hr I1.env0 (hb s1 [.ref a] I1.kIn ?_) (.cons rfl .nil) hsp) fun r s' hq => ?_))
  · exact F.len _ _ _ _ _ _ hsp
  · cases r with
    | error e => exact False.elim hq
    | ok fl =>
      cases fl with
      | ret u => exact ⟨H1, s1, I1, hq, q⟩
      | next => exact False.elim hq
      | brk => exact False.elim hq
      | cont => exact False.elim hq
/-! the block's state through the turns -/
section
variable {X : Cx} {sc s₀ s s5 s6 s7 : Shared} {H1 H5 H' : Hp} {scope : Scope} {ce : Env} {σ : L2.St} {O : List Addr} {D : Addr} {zs zs5 : List V}
/-- D is tracked besides -/
theorem un_more {fs : List Addr} {h h' : Heap} (u : Un fs [] H1 H' h h') (hD : h.objs.size ≤ D) (hn : H' D = none) (o : HO) : Un fs [] H1 (upd H' D o) h h' where
  keep := u.keep
  slot := u.slot
  free := fun b ob e n hx => by rw [upd_ne (Nat.ne_of_lt (Nat.lt_of_lt_of_le (Heap.lt_size e) hD))]; exact u.free b ob e n hx
  there := u.there
  tups := fun b xs e => by
    have q := u.tups b xs e
    rw [upd_ne (ne_of_none q hn)]; exact q
  frzs := fun b ob y e => by
    have q := u.frzs b ob y e
    rw [upd_ne (ne_of_none q hn)]; exact q
  tbls := fun b ps e => by
    obtain ⟨more, q⟩ := u.tbls b ps e
    exact ⟨more, by rw [upd_ne (ne_of_none q hn)]; exact q⟩
theorem hok_more {P : Program} {w : World} {h : Heap} (k : HOk P w H' h) (hn : H' D = none) (f : Full D { s with heap := h } zs) (hl : zs.length ≤ sizeLine) : HOk P w (upd H' D (.lst zs)) h := by
  obtain ⟨acc, c, e, r⟩ := f
  intro b u q
  by_cases hb : b = D
  · subst hb
    rw [upd_same] at q
    cases q
    exact ⟨hl, acc.toList, c, r, by have e : h.get? b = _ := e; rw [e]⟩
  · rw [upd_ne hb] at q
    exact (k b u q).stay (fun _ _ _ z => z) (fun d z => by rw [upd_ne (ne_of_none z hn)]; exact z) fun d xs z => by rw [upd_ne (ne_of_none z hn)]; exact z
theorem blk_turned (J : Inv (X.blk sc H1 scope ce []) [] σ H5 s5) (hc : ∀ x c, ce.cells.lookup x = some c → False) (came : Came X.prog X.w X.stack H1 sc O D s₀ s6 H' zs) (h0 : s₀.heap = s5.heap) (h7 : s7.heap = s6.heap) (o7 : s7.os = s6.os) (b7 : AllBare s7.gens)
    (hC : ce.locals ∈ O) (hD : D ∈ O) (DC : ce.locals ≠ D) (hDs : sc.heap.objs.size ≤ D) (hl : zs.length ≤ sizeLine) : Inv (X.blk sc H1 scope ce []) [] σ (upd H' D (.lst zs)) s7 := by
  obtain ⟨eC, nC⟩ := came.same _ hC
  obtain ⟨eD, nD⟩ := came.same _ hD
  have fz : Full D { s7 with heap := s7.heap } zs := by
    obtain ⟨acc, c, e, r⟩ := came.full
    exact ⟨acc, c, by rw [← eD] at e; show s7.heap.get? D = _; rw [h7]; exact e, r⟩
  have un := came.un
  have hok := came.hok
  rw [← h7] at un hok
  refine ⟨J.ok, o7.trans came.os, b7, un_more un hDs nD _, ?_, fun x c e => (hc x c e).elim, ?_, fun x c e => (hc x c e).elim, fun p hp => absurd (show p ∈ ([] : List (Addr × Obj)) ++ [] from hp) (by simp), hok_more (s := s7) hok nD fz hl, J.len⟩
  · obtain ⟨m, ⟨ob, es, ep, ho, r⟩, q⟩ := J.loc
    refine ⟨m, ⟨ob, es, ep, ?_, r⟩, fun j y v e1 e2 e3 => ?_⟩
    · show s7.heap.get? ce.locals = some ob
      rw [h7, eC, h0]
      exact ho
    · obtain ⟨u, ru, l⟩ := q j y v e1 e2 e3
      refine ⟨u, ru, ?_⟩
      rcases l with l | ⟨_, c, e, _⟩
      · exact .inl l
      · exact (hc y c e).elim
  · show upd H' D (.lst zs) ce.locals = none
    rw [upd_ne DC]
    exact nC
theorem blk_stored {H : Hp} {h' : Heap} {tk i : Nat} {x : Str} {v : V} {u : Value} {m : Str → Option Value} (J : Inv (X.blk sc H1 scope ce []) [] σ H s) (hc : ∀ x c, ce.cells.lookup x = some c → False) (hN : X.N.Nodup) (hi : X.N[i]? = some x) (hx : ce.kindOf x = some .local) (r : RelV v u)
    (hl : ∀ (i : Nat) (x : Str) (v : V), X.N[i]? = some x → σ[i]? = some (some v) → Vis ce.scope x → ∃ u, RelV v u ∧ Look ce s.heap m x u) (hn : h'.Ns ce.locals (fun y => if y = x then some u else m y)) (sb : Heap.SameBut ce.locals s.heap h') :
    Inv (X.blk sc H1 scope ce []) [] (σ.set i (some v)) H { s with heap := h', toks := tk } := by
  have hiσ : i < σ.length := by rw [J.len]; exact (List.getElem?_eq_some_iff.mp hi).1
  have nL : ∀ b o, sc.heap.get? b = some o → b ≠ ce.locals := fun b o e => Nat.ne_of_lt (Nat.lt_of_lt_of_le (Heap.lt_size e) J.ok.above)
  have fr : H ce.locals = none := J.free
  refine ⟨J.ok, J.os, J.bare, ⟨fun b o e n hf hx => ?_, fun b o e n hf hx => ?_, J.base.free, fun b o e hx => ?_, J.base.tups, J.base.frzs, J.base.tbls⟩, ⟨_, hn, fun j y v' e1 e2 e3 => ?_⟩, fun x c e => (hc x c e).elim, J.free, fun x c e => (hc x c e).elim, fun p hp => absurd (show p ∈ ([] : List (Addr × Obj)) ++ [] from hp) (by simp), fun b ob e => ?_, by simpa using J.len⟩
  · exact (sb.2 b (nL b o e)).trans (J.base.keep b o e n hf hx)
  · obtain ⟨sl, e1⟩ := J.base.slot b o e n hf hx
    exact ⟨sl, (sb.2 b (nL b o e)).trans e1⟩
  · obtain ⟨o', e1⟩ := J.base.there b o e hx
    exact ⟨o', (sb.2 b (nL b o e)).trans e1⟩
  · by_cases hj : j = i
    · subst hj
      have e1 : X.N[j]? = some y := e1
      rw [hi] at e1; cases e1
      rw [List.getElem?_set_self hiσ] at e2
      cases e2
      exact ⟨u, r, .inl ⟨hx, by simp⟩⟩
    · rw [List.getElem?_set_ne (Ne.symm hj)] at e2
      obtain ⟨u', r', q⟩ := hl j y v' e1 e2 e3
      refine ⟨u', r', ?_⟩
      rcases q with ⟨k, e⟩ | ⟨_, c, e, _⟩
      · have : y ≠ x := fun z => hj (nodup_ix hN e1 (z ▸ hi))
        exact .inl ⟨k, by simp [this, e]⟩
      · exact (hc y c e).elim
  · refine (J.hok b ob e).stay (fun c w' hb q => (sb.2 c ?_).trans q) (fun _ q => q) fun _ _ q => q
    rintro rfl
    rcases hb with rfl | hb
    · rw [fr] at e; cases e
    · rw [fr] at hb; cases hb
end
end Kx

set_option maxHeartbeats 4000000
namespace Kx
open PySem PySem.Spec PyProof.Rows L2 GenW
/-- each item that comes is worked on with the list tracked besides; what is given is the list at the end -/
def tLcY (tg : TYG) (te : TE) (i : Nat) (vs : List Nat) : TE := fun σ H Q => ∃ n El Pn Qn, n ≤ sizeLine ∧ tg σ H n El Pn Qn fun H1 =>
  (∀ m zs y H', Pn m zs y H' → zs.length < sizeLine ∧ wipe ((wipe σ vs).set i (some y)) vs = wipe σ vs ∧ ∀ D, H' D = none → te ((wipe σ vs).set i (some y)) (upd H' D (.lst zs)) fun z _ => El H' y z) ∧
  ∀ m zs H', Qn m zs H' → zs.length ≤ sizeLine ∧ ∀ D, H' D = none → Q (.ref D) (upd H' D (.lst zs))
theorem un_but {fs : List Addr} {H1 H' : Hp} {h h1 h2 : Heap} {C : Addr} (u : Un fs [] H1 H' h h1) (sb : Heap.SameBut C h1 h2) (hC : h.objs.size ≤ C) : Un fs [] H1 H' h h2 := by
  have ne : ∀ b o, h.get? b = some o → b ≠ C := fun b o e => Nat.ne_of_lt (Nat.lt_of_lt_of_le (Heap.lt_size e) hC)
  exact ⟨fun b o e n hf hx => (sb.2 b (ne b o e)).trans (u.keep b o e n hf hx), fun b o e n hf hx => let ⟨sl, q⟩ := u.slot b o e n hf hx; ⟨sl, (sb.2 b (ne b o e)).trans q⟩, u.free, fun b o e hx => let ⟨o', q⟩ := u.there b o e hx; ⟨o', (sb.2 b (ne b o e)).trans q⟩, u.tups, u.frzs, u.tbls⟩
theorem hok_but {P : Program} {w : World} {H : Hp} {h h2 : Heap} {C : Addr} (k : HOk P w H h) (sb : Heap.SameBut C h h2) (hC : H C = none) : HOk P w H h2 := fun b u q => by
  refine (k b u q).stay (fun c v hc y => (sb.2 c ?_).trans y) (fun _ z => z) fun _ _ z => z
  rintro rfl
  rcases hc with rfl | hc
  · rw [hC] at q; cases q
  · rw [hC] at hc; cases hc
section
variable {X : Cx}
theorem pe_lcY {k i : Nat} {x : Str} {px pos : Pos} {elt iter : Expr} {scope : Scope} {own : List (Str × Nat)} {tg : TYG} {te : TE} (hcalm : X.calm = true) (hN : X.N.Nodup) (hy : PYG X k iter tg) (hr : Room (k + 2) X.A) (ok : BlkOk X.N X.env.scope scope own)
    (nc : ∀ n, cellsFrom n scope.names (cloFrom X.env.cells scope.names []) = []) (hi : X.N[i]? = some x) (hx : (relS scope X.env.scope).names.lookup x = some .local)
    (he : ∀ (s : Shared) (H : Hp) (C : Addr) (cl : List (Str × Addr)), PQ (X.blk s H scope (compEnvC scope cl C X.env) []) elt te) (hs : ∀ x, foldedSetIterable iter X.env x = pure x := by intro _; rfl) :
    PE X (.ListComp elt [⟨.Name x px, iter, [], 0⟩] scope pos) (tLcY tg te i (own.map (·.2))) := by
  refine ⟨fun pins s σ H Q I h => ?_⟩
  obtain ⟨n, El, Pn, Qn, hn, h⟩ := h
  rw [eval_ListComp]
  have hfree : ∀ y ∈ scope.names, y.2 = .free → ∃ c, X.env.cells.lookup y.1 = some c := fun y hy e => by
    rcases ok.free y hy e with k | k
    · exact I.ok.has _ (.inl k)
    · exact I.ok.has _ (.inr k)
  refine wpAny_comprehension_free (use := none) rfl hs (closure_ok hfree) ok.kind (fun y hy e => by rw [ok.uniq y hy, e]) (thn (hy.run pins s σ H n El Pn Qn _ I h) fun u s2 ⟨H1, sc, Isc, ⟨a, g, c, eu, la, za, ga, gg, o2, b2, lim2, kp2, wake⟩, item, last⟩ => ?_)
  subst eu
  refine wpAny_pyIter_gen ga ?_
  refine wpAny_newObj_type (newEnv_comp ?_) (by show 0 ≤ sizeLine; decide)
  generalize hD : s2.heap.objs.size = D
  have aD : a < D := by
    have q : D = a + 1 := hD.symm.trans za
    rw [q]; exact Nat.lt_succ_self _
  have scD : sc.heap.objs.size ≤ D := Nat.le_of_lt (Nat.lt_trans la aD)
  have sc2 : Inv X pins σ H1 s2 := Isc.call' (ch := []) o2 (Un.kept kp2) (Isc.hok.kept kp2) b2 fun b z => by simp at z
  have hDn : H1 D = none := Isc.hok.fresh scD
  generalize hs3 : ({ s2 with heap := s2.heap.push { cls := .type "list", data := .seq ([] : List Value).toArray } } : Shared) = s3
  have h3 : s3.heap = s2.heap.push { cls := .type "list", data := .seq ([] : List Value).toArray } := by rw [← hs3]
  have I3 : Inv X pins σ (upd H1 D (.lst [])) s3 := by
    rw [← hs3]
    refine sc2.laid (t' := s2.toks) (fun b o e => Heap.get?_push_of_some _ e) (Nat.le_of_eq hD) ⟨Nat.zero_le _, [], 0, .nil, ?_⟩
    rw [← hD]
    exact Heap.get?_push_size _ rfl
  have I4 := block_start (fp := []) I3 ok hN fun b hb => absurd hb (by simp)
  have z3 : s3.heap.objs.size = D + 1 := by rw [h3, Heap.size_push, hD]
  show codeAny _ _ (.compStart (.ListComp elt [⟨.Name x px, iter, [], 0⟩] scope pos) 0 (.ref a) (.ref D) (compEnvC scope (cellsFrom (s3.heap.objs.size + 1) scope.names (cloFrom X.env.cells scope.names [])) s3.heap.objs.size X.env)) (compPost (model X.prog X.w) X.A X.xe none (EP X pins σ Q) (.ref D) s3.heap.objs.size) { s3 with heap := pushCells (s3.heap.push { cls := .type "dict", data := .dict #[] }) scope.names }
  have pe := he sc H1 s3.heap.objs.size (cellsFrom (s3.heap.objs.size + 1) scope.names (cloFrom X.env.cells scope.names []))
  generalize hce : compEnvC scope (cellsFrom (s3.heap.objs.size + 1) scope.names (cloFrom X.env.cells scope.names [])) s3.heap.objs.size X.env = ce at I4 pe ⊢
  have cL : ce.locals = s3.heap.objs.size := by subst hce; rfl
  have cC : ∀ x c, ce.cells.lookup x = some c → False := fun x c e => by
    have q : ce.cells = [] := by subst hce; exact nc _
    rw [q] at e; cases e
  have cK : ce.kindOf x = some .local := by subst hce; exact hx
  generalize hs4 : ({ s3 with heap := pushCells (s3.heap.push { cls := .type "dict", data := .dict #[] }) scope.names } : Shared) = s4 at I4 ⊢
  have k34 : ∀ b o, s3.heap.get? b = some o → s4.heap.get? b = some o := fun b o e => by rw [← hs4]; exact pushCells_keeps _ _ _ _ (Heap.get?_push_of_some _ e)
  have k23 : ∀ b o, s2.heap.get? b = some o → s3.heap.get? b = some o := fun b o e => by rw [h3]; exact Heap.get?_push_of_some _ e
  have k24 : ∀ b o, s2.heap.get? b = some o → s4.heap.get? b = some o := fun b o e => k34 _ _ (k23 _ _ e)
  have DC : ce.locals ≠ D := by rw [cL, z3]; exact Nat.succ_ne_self _
  have eD3 : s3.heap.get? D = some (lstObj #[] 0) := by rw [h3, ← hD]; exact Heap.get?_push_size _ rfl
  have o4 : s4.os = sc.os := by rw [← hs4, ← hs3]; exact o2
  have g4 : s4.gens = s2.gens := by rw [← hs4, ← hs3]
  have J4 : Inv (X.blk sc H1 scope ce []) [] (wipe σ (own.map (·.2))) (upd H1 D (.lst [])) s4 := by
    refine ⟨⟨I4.ok.mod, I4.ok.kind, I4.ok.glob, I4.ok.blt, ?_, I4.ok.inj, I4.ok.has, fun y c _ e => (cC y c e).elim, I4.ok.hd, I4.ok.frames, .inl rfl, fun b hb => absurd (show b ∈ ([] : List Addr) from hb) (by simp), Isc.bs, Nat.le_trans Isc.ok.bsz Isc.sz, fun b o e => by simp, fun b hb => absurd (show b ∈ ([] : List Addr) from hb) (by simp), Isc.stack, Isc.stkFree⟩,
      o4, I4.bare, un_more (Un.kept fun b o e => k24 _ _ (kp2 _ _ e)) scD hDn _, I4.loc, I4.cell, I4.free, I4.freeC, fun p hp => absurd (show p ∈ ([] : List (Addr × Obj)) ++ [] from hp) (by simp), I4.hok, I4.len⟩
    show sc.heap.objs.size ≤ ce.locals
    rw [cL, z3]; exact Nat.le_succ_of_le scD
  have F4 : Full D s4 [] := ⟨#[], 0, k34 _ _ eD3, .nil⟩
  have lie4 : Lie [a, D, ce.locals] s4 := by
    intro b hb
    simp only [List.mem_cons, List.mem_singleton, List.not_mem_nil, or_false] at hb
    rcases hb with rfl | rfl | rfl
    · obtain ⟨o, nm, qn, eo, _, hd, _⟩ := ga
      exact ⟨o, k24 _ _ eo, fun v z => by rw [hd] at z; cases z⟩
    · exact ⟨_, k34 _ _ eD3, fun v z => by cases z⟩
    · obtain ⟨m, ⟨ob, es, ep, ho, hd, _⟩, _⟩ := J4.loc
      exact ⟨ob, ho, fun v z => by rw [hd] at z; cases z⟩
  have frA : X.A.frames = some X.stack := Isc.ok.frames
  have rmA : Room k X.A.in1 := ⟨hr.hd, by have := hr.dp; show X.A.depth + 3 * k + 5 < _; omega, by have := hr.un; show X.A.units + 1 + 16 * k + 200 < _; omega⟩
  have oC : ce.locals ∈ [a, D, ce.locals] := by simp
  have oD : D ∈ [a, D, ce.locals] := by simp
  have oa : a ∈ [a, D, ce.locals] := by simp
  have go4 : (GenState.fresh c).Goes (model X.prog X.w) X.A.in1 (CR X.prog X.w X.stack H1 sc [a, D, ce.locals] D Qn) (CY X.prog X.w X.stack H1 sc [a, D, ce.locals] D El Pn) n (.send .none) (s4.setGen g .running) := by
    refine ⟨rfl, ?_⟩
    refine wake X.A.in1 [a, D, ce.locals] D (s4.setGen g .running) rmA frA (fun b hb => ?_) oD F4 lie4 k24 o4 (allBare_setGen I4.bare rfl)
    simp only [List.mem_cons, List.mem_singleton, List.not_mem_nil, or_false] at hb
    rcases hb with rfl | rfl | rfl
    · exact Nat.le_refl _
    · exact Nat.le_of_lt aD
    · rw [cL, z3]; exact Nat.le_of_lt (Nat.lt_succ_of_lt aD)
  have loop : codeAny (model X.prog X.w) X.A (.compLoop (.ListComp elt [⟨.Name x px, iter, [], 0⟩] scope pos) 0 (.ref a) (.ref D) ce) (compPost (model X.prog X.w) X.A X.xe none (EP X pins σ Q) (.ref D) s3.heap.objs.size) s4 := by
    refine compLoop_any (fun m s5 => ∃ zs H5 gs, Inv (X.blk sc H1 scope ce []) [] (wipe σ (own.map (·.2))) (upd H5 D (.lst zs)) s5 ∧ s5.heap.IsGen a g ∧ s5.gens[g]? = some gs ∧
      gs.Goes (model X.prog X.w) X.A.in1 (CR X.prog X.w X.stack H1 sc [a, D, ce.locals] D Qn) (CY X.prog X.w X.stack H1 sc [a, D, ce.locals] D El Pn) m (.send .none) (s5.setGen g .running)) ?_ n ⟨[], H1, _, J4, ga.keeps k24, by rw [g4]; exact gg, go4⟩
    rintro m s5 ⟨zs5, H5, gs, J5, ga5, gg5, go5⟩
    have gl : g < s5.gens.size := (Array.getElem?_eq_some_iff.mp gg5).1
    refine wpAny_gsz (n := g + 1) gl (next_genG (F := fun n s₀ s1 => ∃ H' zs, Came X.prog X.w X.stack H1 sc [a, D, ce.locals] D s₀ s1 H' zs ∧ Qn n zs H') (Er := fun _ _ => False) (hr.hd) J5.nolimit (by have := hr.dp; omega) ga5 gg5 go5 (fun v s6 gs' hb ⟨y, H', zs, ry, came, pn, hk⟩ => ?_) (fun s6 ⟨H', zs, came, qn⟩ h' hk' => ?_) fun e s1 z => z.elim)
    · intro hsz
      have hsz6 : g < s6.gens.size := by
        have q : (s6.setGen g gs').gens.size = s6.gens.size := setGen_size _ _ _
        have hsz' : g + 1 ≤ (s6.setGen g gs').gens.size := hsz
        omega
      obtain ⟨nz, hw, item⟩ := item _ _ _ _ pn
      have J7 : Inv (X.blk sc H1 scope ce []) [] (wipe σ (own.map (·.2))) (upd H' D (.lst zs)) (s6.setGen g gs') := blk_turned J5 cC came rfl rfl rfl (allBare_setGen came.bare hb) oC oD DC scD (Nat.le_of_lt nz)
      have nD : H' D = none := (came.same D oD).2
      refine wpAny_pure ?_
      obtain ⟨mC, hnC, hlC⟩ := J7.loc
      refine wpAny_assign_Name (wpAny_storeName_local cK hnC (fun h' hn' sb => ?_) (by rw [J7.ok.kind]; rfl))
      have J8 := blk_stored (tk := s6.toks + 1) J7 cC hN hi cK ry hlC hn' sb
      refine wpAny_tests_nil ?_
      rw [if_pos rfl]
      refine mono0 (pe.run [] _ _ _ _ J8 (item D nD)) (fun _ _ z => z) fun w s9 ⟨⟨tk, es⟩, z, rz, el⟩ => ?_
      subst es
      obtain ⟨acc, cc, eD, rD⟩ := id came.full
      have eD6 : s6.heap.get? D = some (lstObj acc cc) := (came.same D oD).1.trans eD
      have eD8 : h'.get? D = some (lstObj acc cc) := (sb.2 D DC.symm).trans eD6
      have lz := rD.length
      have sz : acc.size < sizeLine := by
        have : acc.toList.length = acc.size := by simp
        omega
      refine append_at eD8 (fun h'' sb2 e2 => ?_) (Nat.le_of_lt sz)
      have neaD : a ≠ D := Nat.ne_of_lt aD
      have neaC : a ≠ ce.locals := by rw [cL, z3]; exact Nat.ne_of_lt (Nat.lt_succ_of_lt aD)
      have J9 : Inv (X.blk sc H1 scope ce []) [] ((wipe σ (own.map (·.2))).set i (some y)) (upd H' D (.lst (zs ++ [z]))) { s6.setGen g gs' with heap := h'', toks := tk } := by
        have q := (J8.tok tk).write (x := D) (e := D) (o := .lst (zs ++ [z])) (t' := tk) (h' := h'') (by rw [upd_same]; trivial) (.inl rfl) (fun b u hb q => (sb2.2 b hb).trans q) ⟨_, e2⟩ ⟨by rw [List.length_append]; exact nz, acc.toList ++ [w], cc + 1, rD.append (.cons rz .nil), by rw [e2, show (acc.toList ++ [w]).toArray = acc.push w by rw [← Array.toList_push]]⟩
        have eH : upd (upd H' D (.lst zs)) D (.lst (zs ++ [z])) = upd H' D (.lst (zs ++ [z])) := by
          funext b
          by_cases hb : b = D
          · subst hb; rw [upd_same, upd_same]
          · rw [upd_ne hb, upd_ne hb, upd_ne hb]
        rw [eH] at q
        exact q
      have kpO : ∀ b o, b ∉ [a, D, ce.locals] → s6.heap.get? b = some o → h''.get? b = some o := fun b o hb e => by
        simp only [List.mem_cons, List.mem_singleton, List.not_mem_nil, or_false, not_or] at hb
        exact (sb2.2 b hb.2.1).trans ((sb.2 b hb.2.2).trans e)
      have ea : h''.get? a = s6.heap.get? a := (sb2.2 a neaD).trans (sb.2 a neaC)
      have ea5 : s6.heap.get? a = s5.heap.get? a := (came.same a oa).1
      have doze : Doze [a, D, ce.locals] s6 (({ s6.setGen g gs' with heap := h'', toks := tk } : Shared).setGen g .running) := by
        refine ⟨rfl, allBare_setGen (s := { s6.setGen g gs' with heap := h'', toks := tk }) (allBare_setGen came.bare hb) rfl, kpO, fun b hb => ?_⟩
        simp only [List.mem_cons, List.mem_singleton, List.not_mem_nil, or_false] at hb
        rcases hb with rfl | rfl | rfl
        · obtain ⟨o, e, d⟩ := came.lie _ oa
          exact ⟨o, (ea.trans ea5).trans e, d⟩
        · exact ⟨_, e2, fun v z => by cases z⟩
        · obtain ⟨ob, es, ep, ho, hd, _⟩ := hn'
          exact ⟨ob, (sb2.2 _ DC).trans ho, fun v z => by rw [hd] at z; cases z⟩
      have put : Put D El H' y s6 (({ s6.setGen g gs' with heap := h'', toks := tk } : Shared).setGen g .running) z := by
        refine ⟨el, fun zs2 ⟨acc2, c2, e, r⟩ => ?_⟩
        rw [eD6] at e
        cases e
        exact ⟨acc.push w, cc + 1, e2, by rw [Array.toList_push]; exact r.append (.cons rz .nil)⟩
      have go := hk z _ doze put
      cases m with
      | zero => exact False.elim go
      | succ m =>
        refine ⟨m, Nat.lt_succ_self _, zs ++ [z], H', gs', J9.weak (by simp) fun j v e => ?_, ?_, setGen_at hsz6, go⟩
        · rw [← hw] at e
          exact (wipe_some e).1
        · obtain ⟨o, nm, qn, eo, q⟩ := ga5
          exact ⟨o, nm, qn, (ea.trans ea5).trans eo, q⟩
    · intro _
      obtain ⟨hz, last⟩ := last _ _ _ qn
      obtain ⟨eC, nC⟩ := came.same _ oC
      obtain ⟨eD, nD⟩ := came.same _ oD
      obtain ⟨mC, ⟨ob, es, ep, ho, r⟩, _⟩ := J5.loc
      refine ⟨mC, ⟨ob, es, ep, ?_, r⟩, fun h2 sb => ?_⟩
      · rw [← cL]
        exact hk' _ _ (eC.trans ho)
      rw [← cL] at sb
      have scC : sc.heap.objs.size ≤ ce.locals := by rw [cL, z3]; exact Nat.le_succ_of_le scD
      have f : Full D { s6 with heap := h2 } zs := by
        obtain ⟨acc, c, e, r⟩ := came.full
        exact ⟨acc, c, (sb.2 D DC.symm).trans (hk' _ _ (eD.trans e)), r⟩
      refine ⟨.ref D, upd H' D (.lst zs), Isc.call' (ch := []) came.os (un_more (un_but (came.un.trans (Un.kept hk')) sb scC) scD nD _) (hok_more (s := s6) (hok_but (came.hok.kept hk') sb nC) nD f hz) (allBare_setGen came.bare rfl) fun b z => by simp at z, rfl, last D nD⟩
  exact codeAny_compStart_list loop (wpAny_pyIter_gen (ga.keeps k24) loop)
end
end Kx

set_option maxHeartbeats 4000000
namespace Kx
open PySem PySem.Spec PyProof.Rows L2 GenW
/-! beginnings -/
def elYears : Hp → V → V → Prop := fun H y z => ∃ a C dx fs, y = .ref a ∧ H a = some (.ins C dx fs) ∧ fs.lookup ("years" : Str) = some z
def BegOk (H : Hp) (ys : List (List (List Str))) (zs : List V) : Prop := ∀ j z, zs[j]? = some z → Ys .tup H z (ys.take j)
theorem BegOk.keep {H H' : Hp} {ys : List (List (List Str))} {zs : List V} (b : BegOk H ys zs) (s : Same H H') : BegOk H' ys zs := fun j z e => (b j z e).keep s
theorem BegOk.more {H : Hp} {ys : List (List (List Str))} {zs : List V} {z : V} (b : BegOk H ys zs) (q : Ys .tup H z (ys.take zs.length)) : BegOk H ys (zs ++ [z]) := fun j x e => by
  rcases Nat.lt_trichotomy j zs.length with h | h | h
  · rw [List.getElem?_append_left h] at e
    exact b j x e
  · subst h
    rw [List.getElem?_append_right (Nat.le_refl _)] at e
    simp only [Nat.sub_self, List.getElem?_cons_zero] at e
    cases e
    exact q
  · rw [List.getElem?_append_right (Nat.le_of_lt h), List.getElem?_eq_none (by simp; omega)] at e
    cases e
theorem hist_len {C CK p : Addr} {H : Hp} {ks ls : List (Str × Int)} {ys zs : List (List (List Str))} (h : HistAt C CK H p ks ys) (g : HistAt C CK H p ls zs) : ys.length = zs.length := by
  obtain ⟨dx, fs, kp, yt, h1, _, h3, _, _, h6⟩ := h.ob
  obtain ⟨dx', fs', kp', yt', g1, _, g3, _, _, g6⟩ := g.ob
  rw [h1] at g1
  cases g1
  rw [h3] at g3
  cases g3
  obtain ⟨xs, hx, px⟩ := h6.cut
  obtain ⟨xs', hx', px'⟩ := g6.cut
  rw [hx] at hx'
  cases hx'
  rw [← Paired.length px, ← Paired.length px']
def spBegin (C CK : Addr) : SpY := fun vs H n El Pn Qn => ∃ (p : Addr) (ks : List (Str × Int)) (ys : List (List (List Str))), vs = [.ref p] ∧ HistAt C CK H p ks ys ∧ kbOk ks ∧ ys.length ≤ 1000 ∧ n = ys.length + 1 ∧ El = elYears ∧
  Pn = (fun m zs y H' => Same H H' ∧ BegOk H' ys zs ∧ zs.length + m = ys.length ∧ ∃ a, y = .ref a ∧ HistAt C CK H' a ks (ys.take zs.length)) ∧ Qn = fun _ zs H' => Same H H' ∧ BegOk H' ys zs ∧ zs.length = ys.length + 1
theorem elYears.ys {C CK a : Addr} {H : Hp} {z : V} {ks : List (Str × Int)} {ys : List (List (List Str))} (e : elYears H (.ref a) z) (h : HistAt C CK H a ks ys) : Ys .tup H z ys := by
  obtain ⟨b, C', dx, fs, eb, e1, e2⟩ := e
  cases eb
  obtain ⟨dx', fs', kp, yt, h1, h2, h3, h4, h5, h6⟩ := h.ob
  rw [h1] at e1
  cases e1
  rw [h3] at e2
  cases e2
  exact h6
section
variable {P : Program} {w : World} {K : PySem.W.Frag} {mg : Str → Option Value} {base : Heap}
theorem scBegin : GScope ["self", "years"] ["self"] (defScope sHistory_beginnings) := ⟨rfl, rfl, rfl, by decide +kernel, rfl, by decide +kernel, by decide +kernel⟩
theorem ok_begin {f C CK CY fF gL : Addr} {fd fdF fdL : FuncData} (F : Fun K "beginnings" "History.beginnings" sHistory_beginnings f fd) (HX : HC K C) (MF : Meth K C "first" fF) (GF : FnOk P w K mg base (L2.CX P w) 7 fF fdF ["self", "years"] (spCut2 C CK CY fst')) (bF : Binds K fdF ["self", "years"] [])
    (OL : OwnM P w K mg base C "__len__" 1 ["self"] (spHLen C CK) gL fdL) (mL : mg "len" = none) (mR : mg "range" = none) : YFn P w K mg base 8 f fd ["self"] (spBegin C CK) := by
  obtain ⟨oc, od, kV, doc, pm, an, cdv, ct, osl, rfl, lk, hcd⟩ := F.ex
  refine yfn_of lk hcd scBegin (fun n => rfl) (fun vs H n El Pn Qn h => ?_) (fun A outer s H vs n El Pn Qn hr hsp O D Sx c fs R Kf J gd lv s₀ s1 G off lie hD fz I fin => ?_)
  · obtain ⟨p, ks, ys, rfl, _⟩ := h
    rfl
  obtain ⟨p, ks, ys, rfl, hh, kb, ny, rfl, rfl, rfl, rfl⟩ := hsp
  have hr2 : Room 2 _ := hr.mono (by decide)
  refine seg_execs_cons (gen_for (fun _ _ z => z) rfl (pi_range1 (by rfl) mR (pa_cons (pe_op op_add (pe_callB (call_lenOwn OL.M.at_ OL.M.fn OL.raw hr2 pass0) (by rfl) mL PySem.boot_len (pa_cons (pv 0) pa_nil)) pe_int) pa_nil)) (pg_name (i := 1) scBegin.nd rfl (.inl rfl))
    (pe_meth (pv 0) HX.cl MF GF hr bF .nil passL (pa_cons (pv 1) pa_nil)) rfl rfl (fun _ => rfl) G off rfl lie hD fz I ?_ fun n s₀ s σ H' zs l I' f q => fin n s₀ s σ H' zs l I' f q)
  obtain ⟨dx, fs, kp, yt, h1, h2, h3, h4, h5, h6⟩ := hh.ob
  refine ⟨_, rfl, p, dx, fs, rfl, h1, p, ks, ys, rfl, hh, _, rfl, by omega, by omega, ?_⟩
  refine ⟨_, _, rfl, rfl, _, rfl, by omega, by omega, ?_⟩
  refine ⟨fun i m zs σ H' => (∃ o, σ = [some (.ref p), o]) ∧ Same H H' ∧ BegOk H' ys zs ∧ zs.length = i ∧ i + m = ys.length + 1, ⟨⟨_, rfl⟩, Same.refl _, fun j z e => by simp at e, rfl, by omega⟩, ?_⟩
  rintro i m zs σ H' ⟨⟨o, rfl⟩, s, b, lz, e⟩
  have hn : (((ys.length : Nat) : Int) + 1).toNat = ys.length + 1 := by omega
  by_cases hm : m = 0
  · subst hm
    exact .inl ⟨by show _ ≤ i; omega, s, b, by omega⟩
  · obtain ⟨m', rfl⟩ : ∃ m', m = m' + 1 := ⟨m - 1, by omega⟩
    refine .inr ⟨by show i < _; omega, m', rfl, ?_⟩
    rintro x H'' ⟨rfl, rfl⟩
    refine ⟨_, rfl, p, dx, fs, rfl, s _ _ h1, h4 _ (by decide) (by decide), _, rfl, ?_⟩
    have hp := hh.keep s
    refine ⟨⟨p, .int ((0 : Int) + (i : Nat)), "int", ks, ys, rfl, hp, kb, .int _, ?_⟩, ?_⟩
    · have ew : wholeN (.int ((0 : Int) + (i : Nat))) ys.length = some i := by
        show (if 0 ≤ (0 : Int) + (i : Nat) ∧ (0 : Int) + (i : Nat) ≤ (ys.length : Int) then some ((0 : Int) + (i : Nat)).toNat else none) = some i
        rw [if_pos ⟨by omega, by omega⟩]
        congr 1
        omega
      rw [ew]
      intro q H3 hq s3 h3
      have b3 := b.keep s3
      refine ⟨⟨s.trans s3, b3, by omega, q, rfl, ?_⟩, fun z ez => ?_⟩
      · rw [lz]; exact h3
      · have hz := ez.ys h3
        refine ⟨⟨_, rfl⟩, s.trans s3, b3.more ?_, by rw [List.length_append, lz]; rfl, by omega⟩
        rw [lz]; exact hz
    · rintro p' y' ks' ys' e2 h2
      cases e2
      have := hist_len hp h2
      omega
end
end Kx

set_option maxHeartbeats 8000000
namespace Kx
open PySem PySem.Spec PyProof.Rows L2 GenW
/-! cuts hold -/
def dBegs (l : List (List (List (List Str)))) : PyData := .list (l.map dYs)
theorem eqv_dBegs (a b : List (List (List (List Str)))) : PyData.eqv (dBegs a) (dBegs b) = decide (a = b) := by
  show PyData.eqvAll (a.map dYs) (b.map dYs) = _
  exact eqvAll_map eqv_dYs a b
theorem shaped_dBegs {l : List (List (List (List Str)))} (h : ∀ ys ∈ l, OkY ys) : SeqAt.shaped (dBegs l) = true := by
  obtain ⟨a, b⟩ := lay_map (f := dYs) (n := 3) (xs := l) fun ys m => by
    obtain ⟨a, b⟩ := lay_map (f := dDs) (n := 2) (xs := ys) fun y my => lay_dDs (h ys m y my)
    exact ⟨a, by show PyData.depthAll (ys.map dDs) + 1 ≤ 3; omega⟩
  unfold SeqAt.shaped
  rw [Bool.and_eq_true]
  refine ⟨a, decide_eq_true ?_⟩
  show PyData.depthAll (l.map dYs) + 1 ≤ 64
  omega
/-- the beginnings of years -/
def begs (ys : List (List (List Str))) : List (List (List (List Str))) := (List.range (ys.length + 1)).map fun j => ys.take j
theorem BegOk.dp {K : PySem.W.Frag} {H : Hp} {a : Addr} {ys : List (List (List Str))} {zs : List V} (b : BegOk H ys zs) (e : zs.length = ys.length + 1) (h : H a = some (.lst zs)) : Dp K H (.ref a) (dBegs (begs ys)) := by
  refine .lst (SqL.of h) (dpAll_of (F := fun x d => Ys .tup H x d) (fun _ _ q => q.dp) (pr_of (by simp [begs, e]) fun j x d e1 e2 => ?_))
  have q := b j x e1
  unfold begs at e2
  rw [List.getElem?_map] at e2
  cases e3 : (List.range (ys.length + 1))[j]? with
  | none => rw [e3] at e2; cases e2
  | some i =>
    rw [e3] at e2
    obtain ⟨_, e4⟩ := List.getElem?_eq_some_iff.mp e3
    rw [List.getElem_range] at e4
    subst e4
    cases e2
    exact q
theorem begs_ok {ys : List (List (List Str))} (o : OkY ys) : ∀ l ∈ begs ys, OkY l := fun l hl y hy => by
  obtain ⟨j, _, rfl⟩ := List.mem_map.mp hl
  exact o y (List.mem_of_mem_take hy)
theorem whole_in {i n : Nat} (h : i ≤ n) : wholeN (.int (i : Nat)) n = some i := by
  show (if 0 ≤ ((i : Nat) : Int) ∧ ((i : Nat) : Int) ≤ (n : Int) then some ((i : Nat) : Int).toNat else none) = some i
  rw [if_pos ⟨by omega, by omega⟩]
  congr 1
theorem cut_call {C CK CY h : Addr} {H : Hp} {ks : List (Str × Int)} {ys : List (List (List Str))} {i : Nat} {fn : Nat → List (List (List Str)) → List (List (List Str))} {Q : VK} {E : XK} (hh : HistAt C CK H h ks ys) (kb : kbOk ks) (ny : ys.length ≤ 1000) (hi : i ≤ ys.length)
    (k : ∀ q H', Same H H' → HistAt C CK H' q ks (fn i ys) → Q (.ref q) H') : spCut2 C CK CY fn [.ref h, .int (i : Nat)] H Q E := by
  refine ⟨⟨h, _, "int", ks, ys, rfl, hh, kb, .int _, ?_⟩, fun p' y' ks' ys' e2 h2 => ?_⟩
  · rw [whole_in hi]
    exact fun q H' _ s h3 => k q H' s h3
  · cases e2
    have := hist_len hh h2
    omega
theorem OkY.take {ys : List (List (List Str))} (o : OkY ys) (m : Nat) : OkY (ys.take m) := fun y hy => o y (List.mem_of_mem_take hy)
def spCutsHold (C CK : Addr) : Sp := fun vs H Q _ => ∃ (h t : Addr) (ks : List (Str × Int)) (ys : List (List (List Str))), vs = [.ref h, .ref t] ∧ HistAt C CK H h ks ys ∧ Ys .tup H (.ref t) ys ∧ kbOk ks ∧ OkY ys ∧ ys.length ≤ 900 ∧ ∀ H', Same H H' → Q (.bl true) H'
abbrev nCuts : List Str := ["_law_history", "_law_years", "_law_many", "_law_part"]
theorem pq_fldK {X : Cx} {K : PySem.W.Frag} {e : Expr} {f : Str} {pos : Pos} {ta : TE} (h : X.K = K) (he : PQ X e ta) (hb : attributeBase e f X.env (eval e X.env) = eval e X.env) : PQ X (.Attribute e f pos) (tFld K ta f) := by
  subst h
  exact pq_fld he hb
theorem sl_tupK {X : Cx} {K : PySem.W.Frag} (h : X.K = K) : SlR X (rSlA K) := by
  subst h
  exact sl_tupA
section
variable {P : Program} {w : World} {K : PySem.W.Frag} {mg : Str → Option Value} {base : Heap}
theorem scCuts : FnScope nCuts ["_law_history", "_law_years"] (defScope sLCutsHold) := ⟨rfl, rfl, rfl, by decide +kernel, rfl, by decide +kernel, by decide +kernel⟩
theorem ok_cuts {f C CK CY fF fZ fB : Addr} {fd fdF fdZ fdB : FuncData} (F : Fun K "_law_cuts_hold" "_law_cuts_hold" sLCutsHold f fd) (m : mg "_law_cuts_hold" = some (.ref f)) (HX : HC K C) (T : Bl mg) (MF : Meth K C "first" fF) (GF : FnOk P w K mg base (L2.CX P w) 7 fF fdF ["self", "years"] (spCut2 C CK CY fst')) (bF : Binds K fdF ["self", "years"] [])
    (MZ : Meth K C "last" fZ) (GZ : FnOk P w K mg base (L2.CX P w) 7 fZ fdZ ["self", "years"] (spCut2 C CK CY lst')) (bZ : Binds K fdZ ["self", "years"] []) (MB : Meth K C "beginnings" fB) (GB : YFn P w K mg base 8 fB fdB ["self"] (spBegin C CK)) (bB : Binds K fdB ["self"] []) :
    HasF P w K mg base "_law_cuts_hold" 11 ["_law_history", "_law_years"] (spCutsHold C CK) := by
  refine ⟨f, fd, ?_, m, F.kp, F.binds fun _ _ _ _ _ _ us hl => match us, hl with | [_, _], _ => rfl⟩
  refine F.ok scCuts (fun vs H Q E h => ?_) (fun cdv A outer s H vs Q E hr h => ?_)
  · obtain ⟨a, b, c, d, rfl, _⟩ := h
    rfl
  · obtain ⟨h, t, ks, ys, rfl, hh, yt, kb, oy, ny, k⟩ := h
    have ny2 : ys.length ≤ 1000 := by omega
    have hr7 : Room 7 _ := hr.mono (by decide)
    have hr8 : Room 8 _ := hr.mono (by decide)
    refine ⟨_, (pss_cons (ps_for PassesOwn.never rfl (pi_range1 (by rfl) T.range (pa_cons (pe_op op_add (pe_callB call_len_seq (by rfl) T.len PySem.boot_len (pa_cons (pv 1) pa_nil)) pe_int) pa_nil)) (pg_name (i := 2) scCuts.nd rfl (.inl rfl))
        (pss_one (ps_if (PW.pt (pw_or (pt_cmpR (op_neD hr.units) (pe_fld (pe_meth (pv 0) HX.cl MF GF hr7 bF .nil passL (pa_cons (pv 2) pa_nil)) rfl) (pe_slice sl_tupA (pv 1) po_none (po_some (pv 2))) (nomark _)) (pw_or1 (pt_cmpR (op_neD hr.units) (pe_fld (pe_meth (pv 0) HX.cl MZ GZ hr7 bZ .nil passL (pa_cons (pv 2) pa_nil)) rfl) (pe_slice sl_tupA (pv 1) (po_some (pe_op op_sub (pe_callB call_len_seq (by rfl) T.len PySem.boot_len (pa_cons (pv 1) pa_nil)) (pv 2))) po_none) (nomark _))))) (pss_one (ps_ret pe_bl)) pss_nil)))
    (pss_one (ps_ret (pe_cmpR (op_eqD hr.units) (pe_lcY (i := 3) (own := [("_law_part", 3)]) rfl scCuts.nd (pyg_meth0 (pv 0) HX.cl MB GB hr8 bB) hr (blkOk_by (own := [("_law_part", 3)]) (N := nCuts) (sc := defScope sLCutsHold) (by decide +kernel)) (fun _ => rfl) rfl rfl (fun _ _ _ _ => pq_fldK (K := K) rfl (pq_var (i := 3) (x := "_law_part") rfl rfl) rfl))
        (pe_lc (own := [("_law_many", 2)]) (g := gName 2) (tt := tYes) (by rfl) scCuts.nd (pi_range1 (by rfl) T.range (pa_cons (pe_op op_add (pe_callB call_len_seq (by rfl) T.len PySem.boot_len (pa_cons (pv 1) pa_nil)) pe_int) pa_nil)) (blkOk_by (own := [("_law_many", 2)]) (N := nCuts) (sc := defScope sLCutsHold) (by decide +kernel)) (fun _ _ _ _ _ => pg_name (i := 2) scCuts.nd rfl (Or.inl rfl)) (fun _ _ _ _ _ => pts_nil)
          (fun _ _ _ _ _ => (pe_slice (sl_tupK (K := K) rfl) (pv 1) po_none (po_some (pv 2))))) (nomark _))))), ?_⟩
    obtain ⟨xs, hx, px⟩ := yt.cut
    have lx := Paired.length px
    obtain ⟨dx, fs, _, _, h1, _, _, h4, _, _⟩ := hh.ob
    have rng : (((xs.length : Nat) : Int) + 1).toNat = ys.length + 1 := by omega
    refine ⟨_, rfl, t, xs, rfl, .inr (SqT.of hx), _, _, rfl, rfl, _, rfl, by omega, by omega, ?_⟩
    rw [rng]
    refine for_range (fun i σ H' => (∃ o2 o3, σ = [some (.ref h), some (.ref t), o2, o3]) ∧ Same H H') ⟨⟨_, _, rfl⟩, Same.refl _⟩ ?_ ?_
    · rintro i σ H' hi ⟨⟨o2, o3, rfl⟩, s⟩
      have hi : i ≤ ys.length := by omega
      rw [Int.zero_add]
      refine ⟨_, rfl, h, dx, fs, rfl, s _ _ h1, h4 _ (by decide) (by decide), _, rfl, cut_call (hh.keep s) kb ny2 hi fun q H1 s1 q1 => ?_⟩
      obtain ⟨dq, fq, _, yq, a1, _, a3, _, _, a6⟩ := q1.ob
      have s01 := s.trans s1
      refine ⟨q, C, dq, fq, _, rfl, a1, HX.cl, HX.nY, a3, ?_⟩
      refine ⟨_, rfl, _, rfl, _, rfl, ?_⟩
      refine slA_to (s01 _ _ hx) (by omega) fun t2 H2 s2 ht2 => ?_
      have s02 := s01.trans s2
      have y2 : Ys .tup H2 (.ref t2) (ys.take i) := Ys.take ht2 (pr_imp px fun _ _ q => q.keep s02)
      refine ⟨dYs (fst' i ys), dYs (ys.take i), (a6.keep s2).dp, y2.dp, shaped_dYs (oy.take i), shaped_dYs (oy.take i), _, rfl, ?_⟩
      rw [eqv_dYs, decide_eq_true (show fst' i ys = ys.take i from rfl)]
      refine iteF ?_
      refine ⟨_, rfl, h, dx, fs, rfl, s02 _ _ h1, h4 _ (by decide) (by decide), _, rfl, cut_call (hh.keep s02) kb ny2 hi fun q3 H3 s3 q3h => ?_⟩
      obtain ⟨dq3, fq3, _, yq3, b1, _, b3, _, _, b6⟩ := q3h.ob
      have s03 := s02.trans s3
      refine ⟨q3, C, dq3, fq3, _, rfl, b1, HX.cl, HX.nY, b3, ?_⟩
      refine ⟨_, rfl, _, rfl, t, xs, rfl, .inr (SqT.of (s03 _ _ hx)), _, rfl, _, _, rfl, rfl, _, rfl, ?_⟩
      rw [show (((xs.length : Nat) : Int) - ((i : Nat) : Int)) = (((xs.length - i : Nat)) : Int) by omega]
      dsimp only [tNoPart]
      refine slA_from (s03 _ _ hx) (Nat.sub_le _ _) fun t4 H4 s4 ht4 => ?_
      have s04 := s03.trans s4
      have y4 : Ys .tup H4 (.ref t4) (lst' i ys) := by
        unfold lst'
        rw [← lx]
        exact Ys.drop ht4 (pr_imp px fun _ _ q => q.keep s04)
      refine ⟨dYs (lst' i ys), dYs (lst' i ys), (b6.keep s4).dp, y4.dp, shaped_dYs (oy.drop i), shaped_dYs (oy.drop i), _, rfl, ?_⟩
      rw [eqv_dYs, decide_eq_true rfl]
      refine iteF ⟨⟨_, _, rfl⟩, s04⟩
    · rintro σ H' ⟨⟨o2, o3, rfl⟩, s⟩
      refine ⟨ys.length + 1, elYears, _, _, Nat.le_of_lt (small1000 (show ys.length + 1 ≤ 1000 by omega)), ⟨_, rfl, h, dx, fs, rfl, s _ _ h1, h4 _ (by decide) (by decide), ⟨h, ks, ys, rfl, hh.keep s, kb, ny2, rfl, rfl, rfl, rfl⟩, ?_, ?_⟩⟩
      · rintro m zs y H1 ⟨s1, b1, e1, a, rfl, ha⟩
        refine ⟨small1000 (by omega), rfl, fun D hD => ?_⟩
        obtain ⟨dq, fq, _, yq, a1, _, a3, _, _, _⟩ := ha.ob
        exact ⟨.ref a, rfl, a, C, dq, fq, _, rfl, by rw [upd_ne (ne_of_none a1 hD)]; exact a1, HX.cl, HX.nY, a3, a, C, dq, fq, rfl, a1, a3⟩
      · rintro m zs H1 ⟨s1, b1, e1⟩
        refine ⟨Nat.le_of_lt (small1000 (by omega)), fun D hD => ?_⟩
        have sD : Same H1 (upd H1 D (.lst zs)) := sameUpd (Same.refl _) hD
        have s0 := (s.trans s1).trans sD
        refine ⟨_, rfl, t, xs, rfl, .inr (SqT.of (s0 _ _ hx)), _, _, rfl, rfl, _, rfl, by omega, by omega, fun D2 hD2 => ?_⟩
        rw [rng]
        refine lc_range (fun i H' => Same (upd H1 D (.lst zs)) H' ∧ ∃ acc, H' D2 = some (.lst acc) ∧ acc.length = i ∧ BegOk (wo D2 H') ys acc) ⟨sameUpd (Same.refl _) hD2, [], upd_same, rfl, fun j z e => by simp at e⟩ ?_ ?_
        · rintro i H3 hi ⟨sH, acc, hacc, al, bo⟩
          rw [Int.zero_add]
          refine ⟨rfl, ?_⟩
          unfold tYes
          dsimp only
          rw [if_pos rfl]
          refine ⟨_, rfl, _, rfl, _, rfl, ?_⟩
          refine slA_to (sH _ _ (s0 _ _ hx)) (by omega) fun t4 H4 s4 ht4 => ⟨acc, s4 _ _ hacc, small1000 (by omega), woD hD2 sH s4, _, upd_same, by rw [List.length_append, al]; rfl, (bo.keep (woU s4)).more ?_⟩
          have nt : t4 ≠ D2 := fun z => by rw [z, s4 _ _ hacc] at ht4; cases ht4
          have sW : Same (upd H1 D (.lst zs)) (wo D2 (upd H4 D2 (.lst (acc ++ [.ref t4])))) := fun b u e => wo_at (by rw [upd_ne (ne_of_none e hD2)]; exact s4 _ _ (sH _ _ e)) (ne_of_none e hD2)
          rw [al]
          exact Ys.take (wo_at (by rw [upd_ne nt]; exact ht4) nt) (pr_imp px fun _ _ q => q.keep (s0.trans sW))
        · rintro H3 ⟨sH, acc, hacc, al, bo⟩
          have d1 : Dp K H3 (.ref D) (dBegs (begs ys)) := ((b1.keep sD).keep sH).dp e1 (sH _ _ upd_same)
          have d2 : Dp K H3 (.ref D2) (dBegs (begs ys)) := (bo.keep wo_same).dp al hacc
          refine ⟨_, _, d1, d2, shaped_dBegs (begs_ok oy), shaped_dBegs (begs_ok oy), ?_⟩
          rw [eqv_dBegs, decide_eq_true rfl]
          exact k H3 (s0.trans sH)
end
end Kx

set_option maxHeartbeats 4000000
/-! try: .. except A as e: .. except B as e: ..: clauses with one and the same name, tried from the first -/
namespace Kx
open PySem PySem.Spec PyProof.Rows L2
abbrev Suit := Addr → Value → Option Addr → TS
/-- what such clauses wish -/
def wEach (K : PySem.W.Frag) (Wo : WX) (D : Ends) (i : Nat) : List (Value × Suit) → WX
  | [] => Wo
  | (c, ts) :: r => wAs K c i ts (wEach K Wo D i r) D
inductive Clauses (X : Cx) (n : Str) : List ExceptHandler → List (Value × Suit) → Prop
  | nil : Clauses X n [] []
  | cons {x : Str} {c : Value} {ts : Suit} {b₁ : Stmt} {more : List Stmt} {q1 q2 : Pos} {hds : List ExceptHandler} {l : List (Value × Suit)} (hc : Names X x c)
      (su : ∀ (a : Addr) (o : Obj) (cls : Value) (d : Option Addr) (pn : List (Addr × Obj)), Zc cls d o → (∃ vs, o.data = .fields vs) → PSs (X.suite a ((a, o) :: pn)) (b₁ :: more) (ts a cls d)) (r : Clauses X n hds l) :
      Clauses X n (.ExceptHandler (some (.Name x q1)) (some n) (b₁ :: more) q2 :: hds) ((c, ts) :: l)
section
variable {X : Cx} {n : Str} {i : Nat} {body : List Stmt} {c₁ : ExceptHandler} {hds : List ExceptHandler} {l : List (Value × Suit)} {pos : Pos} {tb : WX → TS} {Wo : WX}
/-- how a suite of a named clause goes on -/
theorem suite_ends {pins : List (Addr × Obj)} {D : Ends} {f : Flow} {s : Shared} {a : Addr} {o : Obj} {q : Pos} {pn : List (Addr × Obj)} (ok : X.Ok) (nd : X.N.Nodup) (at_ : X.N[i]? = some n) (lc : X.env.kindOf n = some .local)
    (h : SP (X.suite a ((a, o) :: (pn ++ pins))) [] { nx := fun σ' H' => D.nx (σ'.set i none) H', rt := D.rt, bk := fun σ' H' => D.bk (σ'.set i none) H', ct := fun σ' H' => D.ct (σ'.set i none) H' } f s) (hpn : pn = X.pn) :
    wpAny (model X.prog X.w) X.A (do bindName X.env n .none; unbindBehindTheSuite X.env n q) (fun _ s2 => SP X pins D f s2) X.xe s := by
  subst hpn
  cases f with
  | ret u => obtain ⟨v, σ1, H1, S1, r1, q1⟩ := h; exact gone_ok (S1.unsuite ok) nd at_ lc fun s2 J => ⟨_, _, _, J, r1, q1⟩
  | next => obtain ⟨σ1, H1, S1, q1⟩ := h; exact gone_ok (S1.unsuite ok) nd at_ lc fun s2 J => ⟨_, _, J, q1⟩
  | brk => obtain ⟨σ1, H1, S1, q1⟩ := h; exact gone_ok (S1.unsuite ok) nd at_ lc fun s2 J => ⟨_, _, J, q1⟩
  | cont => obtain ⟨σ1, H1, S1, q1⟩ := h; exact gone_ok (S1.unsuite ok) nd at_ lc fun s2 J => ⟨_, _, J, q1⟩
theorem ps_try_each (hs : X.stack = X.env :: X.outer) (hf : X.env.frame = some X.env.locals) (nd : X.N.Nodup) (at_ : X.N[i]? = some n) (lc : X.env.kindOf n = some .local) (tk : Takes X Wo)
    (hb : ∀ (W : WX) (pn : List (Addr × Obj)) (xe : Value → Shared → Prop), Takes (X.tr pn xe) W → PassesOwn (model X.prog X.w) X.A X.env xe → PSs (X.tr pn xe) body (tb W))
    (hh : Clauses X n (c₁ :: hds) l) : PS X (.Try body (c₁ :: hds) [] [] pos) (fun D σ H => tb (wEach X.K Wo D i l) D σ H) := by
  refine ⟨fun pins s σ H D I h => ?_⟩
  have ok := I.ok
  have fr : X.A.frames = some (X.env :: X.outer) := ok.frames.trans (congrArg some hs)
  refine wpAny_Try_except (wpAny_mono ((hb (wEach X.K Wo D i l) (X.pn ++ pins) _ (fun u s' xx => ?_) PassesOwn.looking).run [] s σ H D (I.toTry _) h) (fun f s1 hsp => ?_) (fun e s1 he => he))
  · obtain ⟨a, B, sI, pins', σ', H', cls, d, rfl, J', nb, up, sky, na, os, ag, w⟩ := xx
    have J : Inv X pins σ' H' sI := J'.ofTry ok
    rw [hs] at sky
    show wpAny (model X.prog X.w) X.A (noteFrame (.ref a) X.env) _ _ _
    refine Sky.land Zc.steady fr hf sky fun h3 fl3 up3 => ?_
    have up03 := up.trans up3
    obtain ⟨o3, vs3, g3, z3, d3⟩ := fl3.there
    have out : a ∉ frs (X.env :: X.outer) := fun hm => by
      obtain ⟨_, o', e', hnf⟩ := fl3.2.2.1.mem hm
      rw [g3] at e'
      cases e'
      exact hnf _ d3
    have nL : a ≠ X.env.locals := fun z => out (List.mem_filterMap.mpr ⟨X.env, .head _, by rw [hf, z]⟩)
    have nF : a ∉ X.fs := fun hm => by
      obtain ⟨e, he, q⟩ := List.mem_filterMap.mp hm
      exact out (List.mem_filterMap.mpr ⟨e, .tail _ he, q⟩)
    have S3 := (show Inv X pins σ' H' { s' with heap := h3 } from J.landed nb fl3.1 up03 os ag).suite g3 d3 na nL nF
    have LT : PySem.W.Looks (model X.prog X.w) h3 (typeOf (.ref a)) cls := fun A Q E s k q => wpAny_typeOf_ref (k _ _ g3) (by rw [z3.1]; exact q)
    clear h
    revert w
    generalize c₁ :: hds = hdl at hh
    intro w
    induction hh with
    | nil =>
      refine wpAny_handleBy_nil ?_
      obtain ⟨_, _, _, oe, vs, T, oT, ts', g, hz, hd, h1, hr⟩ := id fl3
      unfold PySem.passOn
      refine wpAny_bind (wpAny_field g hd h1 ?_)
      rw [if_neg (show ¬ (Value.ref T == Value.none) = true by simp)]
      have fin : wpAny (model X.prog X.w) X.A (setFlight (.ref a) X.env.frame) (fun _ s4 => wpAny (model X.prog X.w) X.A (throw (.ref a) : Sem Flow) (SP X pins D) X.xe s4) X.xe { s' with heap := h3 } := by
        rw [hf]
        exact HandSPX.setFlight_upZ fl3 fun h4 hh4 up4 => wpAny_throw (tk _ _ ⟨a, B, sI, pins, σ', H', cls, d, rfl, J, nb, up03.trans up4, .inr (.inr (by rw [hs]; exact hh4)), na, os, ag, w⟩)
      first
        | exact wpAny_bind (wpAny_pure (wpAny_bind fin))
        | exact wpAny_bind fin
    | @cons x c ts b₁ more q1 q2 hds2 l2 hc su r ih =>
      obtain ⟨b, hb1, yes, no⟩ := w
      refine wpAny_handleBy_cons (codeAny_handlers_test ?_) (by intro q; cases q)
      have LM := PySem.W.exm_one (M := model X.prog X.w) S3.kIn LT hb1
      have named : ∀ {Q : Value → Shared → Prop} {E : Value → Shared → Prop}, Q c { s' with heap := h3 } → wpAny (model X.prog X.w) (X.A.mark (some (.ref a))) (eval (.Name x q1) X.env) Q E { s' with heap := h3 } := fun {Q E} q => by
        rcases hc with ⟨hg, hd0, hm | ⟨hm, hv, hn⟩⟩
        · exact ld_glob (X := X.suite a ((a, o3) :: (X.pn ++ pins))) S3 hg hm q hd0
        · exact ld_blt (X := X.suite a ((a, o3) :: (X.pn ++ pins))) S3 hg hm hv q hn hd0
      refine named (LM.here ?_)
      cases b with
      | false => exact ih (no rfl)
      | true =>
        refine codeAny_handlers_suite_as (HandSPX.lands_againZ fl3 fun h4 fl4 up4 => ?_)
        obtain ⟨o4, vs4, g4, z4, d4⟩ := fl4.there
        have S4 := (show Inv X pins σ' H' { s' with heap := h4 } from J.landed nb fl4.1 (up03.trans up4) os ag).suite g4 d4 na nL nF
        refine store_ok (X := X.suite a ((a, o4) :: (X.pn ++ pins))) (v := .ref a) S4 nd at_ (.inl lc) rfl (fun s5 S5 => ?_) (.inr lc)
        exact wpAny_mono ((su a o4 cls d (X.pn ++ pins) z4 ⟨_, d4⟩).run [] s5 _ H' _ S5 (yes rfl a na)) (fun f s6 hsp => suite_ends ok nd at_ lc hsp rfl) (fun _ _ z => z.elim)
  · cases f with
    | ret u => obtain ⟨v, σ1, H1, J, r, q⟩ := hsp; exact ⟨v, σ1, H1, J.ofTry ok, r, q⟩
    | next => obtain ⟨σ1, H1, J, q⟩ := hsp; exact wpAny_execs_nil ⟨σ1, H1, J.ofTry ok, q⟩
    | brk => obtain ⟨σ1, H1, J, q⟩ := hsp; exact ⟨σ1, H1, J.ofTry ok, q⟩
    | cont => obtain ⟨σ1, H1, J, q⟩ := hsp; exact ⟨σ1, H1, J.ofTry ok, q⟩
end
end Kx

set_option maxHeartbeats 8000000
namespace Kx
open PySem PySem.Spec PyProof.Rows L2
/-! methods with a star parameter: without arguments; that may be refused -/
section
variable {X : Cx} {CX : CXT} {k : Nat} {C f : Addr} {m : Str} {sp : Sp} {E : XK} {Ew : L2.St → XK} {o e : Expr} {es : List Expr} {ta : TE} {t : TA} {apos pos : Pos} {pl : Sem Bool}
theorem pe_methR0 (he : PE X o ta) (c : Cls X.K C) (hm : Meth X.K C m f) (F : FnR X.prog X.w X.K X.mg X.base CX k f sp) (hr : Room k X.A) (hx : Passes CX X E)
    (ht : eval (.Call (.Attribute o m apos) [] [] pos) X.env = (do
      let ov ← eval o X.env
      standAt apos.atName
      let (f, first) ← holding [ov] (getMethod ov m pl)
      callWith pos f first (backTo pos (starEach [] X.env)) (backToKw pos (keywordEach [] X.env))) := by rfl) :
    PE X (.Call (.Attribute o m apos) [] [] pos) (tMethR C m sp E ta tNil) :=
  ⟨fun pins s σ H Q I h => PySem.W.methodCall_KW (pl := pl) (thn (he.run pins s σ H _ I h) fun u s1 ⟨x, H1, J, rx, a, dx, fs, ex, ea, l, q⟩ => by
    subst ex
    obtain rfl : u = Value.ref a := rx
    exact getmeth_ok J ea c hm l (PySem.W.callWith_K0 (first := [.ref a]) J.kIn hm.kp (wpAny_call (run_fnR (us := [.ref a]) (vs := [.ref a]) F hr hx J (.cons rfl .nil) q)))) ht⟩
def tMethRW (C : Addr) (m : Str) (sp : Sp) (Ew : L2.St → XK) (ta : TE) (t : TA) : TE := fun σ H Q => ta σ H fun x H1 => ∃ a dx fs, x = .ref a ∧ H1 a = some (.ins C dx fs) ∧ fs.lookup m = none ∧ t σ H1 fun vs H2 => sp (.ref a :: vs) H2 Q (Ew σ)
theorem pe_methRW (he : PE X o ta) (c : Cls X.K C) (hm : Meth X.K C m f) (F : FnR X.prog X.w X.K X.mg X.base CX k f sp) (hr : Room k X.A) (hx : ∀ σ, PassesAt CX X σ (Ew σ)) (ha : PA X (e :: es) t)
    (hst : starEach (e :: es) X.env = (false, eval e X.env) :: starEach es X.env := by rfl) (hpl : (backTo pos (starEach es X.env)).any (·.1) = false := by rfl)
    (ht : eval (.Call (.Attribute o m apos) (e :: es) [] pos) X.env = (do
      let ov ← eval o X.env
      standAt apos.atName
      let (f, first) ← holding [ov] (getMethod ov m pl)
      callWith pos f first (backTo pos (starEach (e :: es) X.env)) (backToKw pos (keywordEach [] X.env))) := by rfl) :
    PE X (.Call (.Attribute o m apos) (e :: es) [] pos) (tMethRW C m sp Ew ta t) := by
  refine ⟨fun pins s σ H Q I h => PySem.W.methodCall_KW (pl := pl) (thn (he.run pins s σ H _ I h) fun u s1 ⟨x, H1, J, rx, a, dx, fs, ex, ea, l, q⟩ => ?_) ht⟩
  subst ex
  obtain rfl : u = Value.ref a := rx
  refine getmeth_ok J ea c hm l (PySem.W.callWith_K (first := [.ref a]) (h₀ := X.base) I.ok.mod.kin hm.kp (thn (ha.run pos pins s1 σ H1 _ J q) fun us s2 ⟨vs, H2, J2, r, q2⟩ => ⟨J2.kIn, ?_⟩) hst hpl)
  refine wpAny_call (codeAny_mono (F X.A X.stack s2 H2 (.ref a :: us) (.ref a :: vs) Q (Ew σ) hr J2.env0 (.cons rfl r) q2) fun r s' got => ?_)
  rcases r with e | (_ | _ | _ | u)
  · exact hx σ pins _ _ e s' J2 got
  · exact False.elim got
  · exact False.elim got
  · exact False.elim got
  · exact J2.after got
end
theorem ix_listK {X : Cx} {K : PySem.W.Frag} (h : X.K = K) : IxR X (rIxL K) := by
  subst h
  exact ix_list
theorem call_len_seqK {X : Cx} {K : PySem.W.Frag} (h : X.K = K) : CallR X (.builtin "len") (fun xs H Q => ∃ p ys, xs = [.ref p] ∧ (SqL K H p ys ∨ SqT K H p ys) ∧ Q (.int ys.length) H) := by
  subst h
  exact call_len_seq
/-- what is known of OtherKinds when it is caught -/
structure ErO (K : PySem.W.Frag) (mg : Str → Option Value) (CO CS CY : Addr) : Prop where
  m : mg "OtherKinds" = some (.ref CO)
  mS : mg "SearchError" = some (.ref CS)
  EB : ExcC K CO
  tB : PySem.W.exmOne K (.ref CO) (.ref CO) = some true
  tY : PySem.W.exmOne K (.ref CO) (.ref CY) = some false
  kS : PySem.W.kitOne K (.ref CO) (.ref CS) = some true
def spLAgree (C CK : Addr) : Sp := fun vs H Q _ => ∃ (p o : Addr) (y : V) (n : String) (ks ls : List (Str × Int)) (ys zs : List (List (List Str))), vs = [.ref p, .ref o, y] ∧ HistAt C CK H p ks ys ∧ HistAt C CK H o ls zs ∧ OkK ks ∧ OkK ls ∧ OkY ys ∧ OkY zs ∧ ys.length ≤ 2000000 ∧ zs.length ≤ 2000000 ∧ Kd H y n ∧ wholeN y 1000000 = none ∧
  ((ks ≠ ls ∧ ∀ t H', Same H H' → H' t = some (.lst [.str "kinds", .bl true]) → Q (.ref t) H') ∨ (ks = ls ∧ ∀ t H', Same H H' → H' t = some (.lst [.str "years", y]) → Q (.ref t) H'))
def spLJoined (C CK : Addr) : Sp := fun vs H Q _ => ∃ (p o : Addr) (ks ls : List (Str × Int)) (ys zs : List (List (List Str))), vs = [.ref p, .ref o] ∧ HistAt C CK H p ks ys ∧ HistAt C CK H o ls zs ∧ kbOk ks ∧ OkK ks ∧ OkK ls ∧ FewY (ys ++ zs) ∧ ks ≠ ls ∧
  ∀ t H', Same H H' → H' t = some (.lst [.str "kinds", .bl true]) → Q (.ref t) H'
def spLLonger (K : PySem.W.Frag) (C CK : Addr) : Sp := fun vs H Q _ => ∃ (p t : Addr) (xs : List V) (ks : List (Str × Int)) (ys : List (List (List Str))) (r : List (Option (List V))), vs = [.ref p, .ref t] ∧ HistAt C CK H p ks ys ∧ kbOk ks ∧ FewY ys ∧ H t = some (.lst xs) ∧ (xs.length = 1 ∨ xs.length = 2) ∧ Paired (DeedIs H) xs r ∧
  match yearWord ks (some r) with
  | some (j, w) => ∀ u H', Same H H' → H' u = some (.lst [.str "refused", .int (ys.length : Nat), .int (j : Nat), .str w]) → Q (.ref u) H'
  | none => ∀ ds, r = dR ds → ∀ x H', Same H H' → Ys .tup H' x (ys ++ [ds]) → Q x H'
section
variable {P : Program} {w : World} {K : PySem.W.Frag} {mg : Str → Option Value} {base : Heap}
theorem scLAgree : FnScope ["_law_one_here", "_law_other", "_law_years", "e"] ["_law_one_here", "_law_other", "_law_years"] (defScope sLAgree) := ⟨rfl, rfl, rfl, by decide +kernel, rfl, by decide +kernel, by decide +kernel⟩
theorem ok_lagree {f C CK CO CY CS fY gA : Addr} {fd fdY fdA : FuncData} (F : Fun K "_law_agree" "_law_agree" sLAgree f fd) (m : mg "_law_agree" = some (.ref f)) (B : Bm mg) (HX : HC K C) (MA : Meth K C "agrees" gA) (GA : FnOk P w K mg base (L2.CX P w) 3 gA fdA ["self", "other", "years"] (spAgrees C CK CO CY)) (bA : Binds K fdA ["self", "other", "years"] [])
    (EY : BY P w K mg base CY fY fdY) (tY : PySem.W.exmOne K (.ref CY) (.ref CY) = some true) (EO : ErO K mg CO CS CY) : HasF P w K mg base "_law_agree" 4 ["_law_one_here", "_law_other", "_law_years"] (spLAgree C CK) := by
  refine ⟨f, fd, ?_, m, F.kp, F.binds fun _ _ _ _ _ _ us hl => match us, hl with | [_, _, _], _ => rfl⟩
  refine F.ok scLAgree (fun vs H Q E h => ?_) (fun cdv A outer s H vs Q E hr h => ?_)
  · obtain ⟨a, b, c, d, e, g, i, j, rfl, _⟩ := h
    rfl
  · obtain ⟨p, o, y, n, ks, ls, ys, zs, rfl, hp, ho, ok, ol, oy, oz, ly, lz, ky, wn, k⟩ := h
    refine ⟨_, pss_one (ps_try_each (i := 3) (Wo := fun _ _ _ _ => False) rfl rfl scLAgree.nd rfl rfl takes0
        (fun W pn xe tk _ => pss_one (ps_ret (pe_methW (pv 0) HX.cl MA GA hr bA (fun σ => passAt tk σ) (pa_cons (pv 1) (pa_cons (pv 2) pa_nil)))))
        (Clauses.cons ⟨rfl, by decide, .inl EY.E.gC⟩ (fun a oe cls d pn hz hf => pss_one (ps_ret (pe_lst (pa_cons pe_str (pa_cons (pe_xf EY.E.xf EY.n1 hz hf (pv 3)) pa_nil)))))
          (Clauses.cons ⟨rfl, by decide, .inl EO.m⟩ (fun a oe cls d pn hz hf => pss_one (ps_ret (pe_lst (pa_cons pe_str (pa_cons (pe_callB (call_isEd (K := K) (D := CO) rfl EO.EB hz hf) (by rfl) B.isinstance (by decide +kernel) (pa_cons (pv 3) (pa_cons (pe_glob (v := .ref CS) rfl EO.mS rfl) pa_nil))) pa_nil)))))
            Clauses.nil))), ?_⟩
    obtain ⟨dx, fs, kp, yt, h1, h2, h3, h4, h5, h6⟩ := hp.ob
    refine ⟨_, rfl, p, dx, fs, rfl, h1, h4 _ (by decide +kernel) (by decide +kernel), _, rfl, _, rfl, p, o, y, n, ks, ls, ys, zs, rfl, hp, ho, ok, ol, oy, oz, ly, lz, ky, ?_⟩
    rcases k with ⟨e, k⟩ | ⟨e, k⟩
    · refine .inl ⟨e, ⟨false, EO.tY, fun q => absurd q Bool.false_ne_true, fun _ => ⟨true, EO.tB, fun _ a ha => ?_, fun q => nomatch q⟩⟩⟩
      refine ⟨_, rfl, rfl, .inl rfl, .ref CS, .ref CS, true, rfl, fun u e => e, EO.kS, (by show 2 ≤ sizeLine; decide), fun t ht => ?_⟩
      exact k t _ (sameUpd (Same.refl _) ht) upd_same
    · refine .inr ⟨e, ?_⟩
      rw [wn]
      refine fun d H' hd s ed => ⟨true, tY, fun _ a ha => ?_, fun q => nomatch q⟩
      exact ⟨_, rfl, rfl, rfl, d, _, y, rfl, ed, rfl, (by show 2 ≤ sizeLine; decide), fun t ht => k t _ (sameUpd s ht) upd_same⟩
theorem scLJoined : FnScope ["_law_one_here", "_law_other", "e"] ["_law_one_here", "_law_other"] (defScope sLJoined) := ⟨rfl, rfl, rfl, by decide +kernel, rfl, by decide +kernel, by decide +kernel⟩
theorem ok_ljoined {f C CK CO CS CY gJ : Addr} {fd fdJ : FuncData} (F : Fun K "_law_joined" "_law_joined" sLJoined f fd) (m : mg "_law_joined" = some (.ref f)) (B : Bm mg) (HX : HC K C) (MJ : Meth K C "joined" gJ) (GJ : FnOk P w K mg base (L2.CX P w) 7 gJ fdJ ["self", "other"] (spJoined C CK CO)) (bJ : Binds K fdJ ["self", "other"] [])
    (EO : ErO K mg CO CS CY) : HasF P w K mg base "_law_joined" 8 ["_law_one_here", "_law_other"] (spLJoined C CK) := by
  refine ⟨f, fd, ?_, m, F.kp, F.binds fun _ _ _ _ _ _ us hl => match us, hl with | [_, _], _ => rfl⟩
  refine F.ok scLJoined (fun vs H Q E h => ?_) (fun cdv A outer s H vs Q E hr h => ?_)
  · obtain ⟨a, b, c, d, e, g, rfl, _⟩ := h
    rfl
  · obtain ⟨p, o, ks, ls, ys, zs, rfl, hp, ho, kb, ok, ol, few, ne, k⟩ := h
    refine ⟨_, pss_one (ps_try_as (i := 2) (Wout := fun _ _ _ _ => False) rfl rfl scLJoined.nd rfl rfl ⟨rfl, by decide, .inl EO.m⟩ takes0
        (fun W pn xe tk _ => pss_one (ps_ret (pe_fldK (K := K) rfl (pe_methW (pv 0) HX.cl MJ GJ hr bJ (fun σ => passAt tk σ) (pa_cons (pv 1) pa_nil)) rfl)))
        (fun a oe cls d pn hz hf => pss_one (ps_ret (pe_lst (pa_cons pe_str (pa_cons (pe_callB (call_isEd (K := K) (D := CO) rfl EO.EB hz hf) (by rfl) B.isinstance (by decide +kernel) (pa_cons (pv 2) (pa_cons (pe_glob (v := .ref CS) rfl EO.mS rfl) pa_nil))) pa_nil)))))), ?_⟩
    obtain ⟨dx, fs, kp, yt, h1, h2, h3, h4, h5, h6⟩ := hp.ob
    refine ⟨_, rfl, p, dx, fs, rfl, h1, h4 _ (by decide +kernel) (by decide +kernel), _, rfl, p, o, ks, ls, ys, zs, rfl, hp, ho, kb, ok, ol, few, .inr ⟨ne, ?_⟩⟩
    refine ⟨true, EO.tB, fun _ a ha => ?_, fun q => nomatch q⟩
    refine ⟨_, rfl, rfl, .inl rfl, .ref CS, .ref CS, true, rfl, fun u e => e, EO.kS, (by show 2 ≤ sizeLine; decide), fun t ht => ?_⟩
    exact k t _ (sameUpd (Same.refl _) ht) upd_same
theorem scLLonger : FnScope ["_law_history", "_law_deeds", "e"] ["_law_history", "_law_deeds"] (defScope sLLonger) := ⟨rfl, rfl, rfl, by decide +kernel, rfl, by decide +kernel, by decide +kernel⟩
abbrev spThenR (K : PySem.W.Frag) (C CK CB : Addr) : Sp := fun vs H Q E => ∃ ws rest, vs = ws ++ rest ∧ ws.length = ["self"].length ∧ rest.length ≤ sizeLine ∧ ∀ p, H p = Option.none → spThen K C CK CB (ws ++ [V.ref p]) (upd H p (.tup rest)) Q E
theorem ok_llonger {f C CK CB fB gT : Addr} {fd fdB : FuncData} (F : Fun K "_law_longer" "_law_longer" sLLonger f fd) (m : mg "_law_longer" = some (.ref f)) (T : Bl mg) (HX : HC K C) (MT : Meth K C "then_year" gT) (GT : FnR P w K mg base (L2.CX P w) 7 gT (spThenR K C CK CB))
    (EB : BH P w K mg base CB fB fdB) (tB : PySem.W.exmOne K (.ref CB) (.ref CB) = some true) : HasF P w K mg base "_law_longer" 8 ["_law_history", "_law_deeds"] (spLLonger K C CK) := by
  refine ⟨f, fd, ?_, m, F.kp, F.binds fun _ _ _ _ _ _ us hl => match us, hl with | [_, _], _ => rfl⟩
  refine F.ok scLLonger (fun vs H Q E h => ?_) (fun cdv A outer s H vs Q E hr h => ?_)
  · obtain ⟨a, b, c, d, e, g, rfl, _⟩ := h
    rfl
  · obtain ⟨p, t, xs, ks, ys, r, rfl, hp, kb, few, ht, lx, pr, k⟩ := h
    refine ⟨_, pss_one (ps_try_as (i := 2) (Wout := fun _ _ _ _ => False) rfl rfl scLLonger.nd rfl rfl ⟨rfl, by decide, .inl EB.E.gC⟩ takes0
        (fun W pn xe tk _ => pss_cons (ps_if (pt_cmpR op_eq (pe_callB (call_len_seqK (K := K) rfl) (by rfl) T.len PySem.boot_len (pa_cons (pv 1) pa_nil)) pe_int (nomark _)) (pss_one (ps_ret (pe_fldK (K := K) rfl (pe_methRW (pv 0) HX.cl MT GT hr (fun σ => passAt tk σ) (pa_cons (pe_ix (ix_listK (K := K) rfl) (pv 1) pe_int (fun _ _ => rfl)) pa_nil)) rfl))) pss_nil)
          (pss_one (ps_ret (pe_fldK (K := K) rfl (pe_methRW (pv 0) HX.cl MT GT hr (fun σ => passAt tk σ) (pa_cons (pe_ix (ix_listK (K := K) rfl) (pv 1) pe_int (fun _ _ => rfl)) (pa_cons (pe_ix (ix_listK (K := K) rfl) (pv 1) pe_int (fun _ _ => rfl)) pa_nil))) rfl))))
        (fun a oe cls d pn hz hf => pss_one (ps_ret (pe_lst (pa_cons pe_str (pa_cons (pe_xf EB.E.xf EB.n1 hz hf (pv 2)) (pa_cons (pe_xf EB.E.xf EB.n2 hz hf (pv 2)) (pa_cons (pe_xf EB.E.xf EB.n3 hz hf (pv 2)) pa_nil)))))))), ?_⟩
    obtain ⟨dx, fs, kp, yt, h1, h2, h3, h4, h5, h6⟩ := hp.ob
    have lr := Paired.length pr
    have call : ∀ {Q' : VK} {E' : XK}, (∀ j w' d H', yearWord ks (some r) = some (j, w') → Same H H' → H' d = some (.xd (bhF (ys.length : Nat) j w')) → E' (.ref CB) (some d) H') →
        (∀ ds q H', yearWord ks (some r) = none → r = dR ds → Same H H' → HistAt C CK H' q ks (ys ++ [ds]) → Q' (.ref q) H') → spThenR K C CK CB (.ref p :: xs) H Q' E' := fun {Q' E'} no yes => by
      refine ⟨[.ref p], xs, rfl, rfl, Nat.le_of_lt (small1000 (by omega)), fun q hq => ?_⟩
      have s1 : Same H (upd H q (.tup xs)) := sameUpd (Same.refl _) hq
      refine ⟨p, q, ks, ys, some r, rfl, hp.keep s1, kb, few, .seq (.tup upd_same) (pr_imp pr fun _ _ z => z.keep s1) (by omega), by show r.length ≤ 100; omega, ?_⟩
      cases e : yearWord ks (some r) with
      | some jw =>
        obtain ⟨j, w'⟩ := jw
        exact fun d H' _ s ed => no j w' d H' e (s1.trans s) ed
      | none => exact fun ds er q' H' _ s hh => yes ds q' H' e (Option.some.inj er) (s1.trans s) hh
    have after : ∀ {ds : List (List Str)} {q : Addr} {H' : Hp}, yearWord ks (some r) = none → r = dR ds → Same H H' → HistAt C CK H' q ks (ys ++ [ds]) → ∃ (a C' dx : Addr) (fs : List (Str × V)) (v : V), V.ref q = .ref a ∧ H' a = some (.ins C' dx fs) ∧ Cls K C' ∧ NoAttr K C' "years" ∧ fs.lookup ("years" : Str) = some v ∧ Q v H' := fun {ds q H'} e er s hh => by
      rw [e] at k
      obtain ⟨dq, fq, _, yq, a1, _, a3, _, _, a6⟩ := hh.ob
      exact ⟨q, C, dq, fq, _, rfl, a1, HX.cl, HX.nY, a3, k ds er _ H' s a6⟩
    have lost : ∀ {j : Nat} {w' : Str} {d : Addr} {H' : Hp}, yearWord ks (some r) = some (j, w') → Same H H' → H' d = some (.xd (bhF (ys.length : Nat) j w')) → ∀ u, H' u = none → Q (.ref u) (upd H' u (.lst [.str "refused", .int (ys.length : Nat), .int (j : Nat), .str w'])) := fun {j w' d H'} e s ed u hu => by
      rw [e] at k
      exact k u _ (sameUpd s hu) upd_same
    rcases lx with lx | lx
    · obtain ⟨x0, rfl⟩ : ∃ x0, xs = [x0] := by
        match xs, lx with
        | [x0], _ => exact ⟨x0, rfl⟩
      refine ⟨_, rfl, t, [x0], rfl, .inl (SqL.of ht), rfl, _, rfl, iteT ?_⟩
      refine ⟨_, rfl, p, dx, fs, rfl, h1, h4 _ (by decide +kernel) (by decide +kernel), _, rfl, t, [x0], 0, x0, rfl, rfl, SqL.of ht, at0 _ _, call (fun j w' d H' e s ed => ⟨true, tB, fun _ a ha => ?_, fun q => nomatch q⟩) fun ds q H' e er s hh => after e er s hh⟩
      exact ⟨_, rfl, rfl, rfl, d, _, _, rfl, ed, rfl, _, rfl, rfl, rfl, d, _, _, rfl, ed, rfl, _, rfl, rfl, rfl, d, _, _, rfl, ed, rfl, (by show 4 ≤ sizeLine; decide), lost e s ed⟩
    · obtain ⟨x0, x1, rfl⟩ : ∃ x0 x1, xs = [x0, x1] := by
        match xs, lx with
        | [x0, x1], _ => exact ⟨x0, x1, rfl⟩
      refine ⟨_, rfl, t, [x0, x1], rfl, .inl (SqL.of ht), rfl, _, rfl, iteF ?_⟩
      refine ⟨_, rfl, p, dx, fs, rfl, h1, h4 _ (by decide +kernel) (by decide +kernel), _, rfl, t, [x0, x1], 0, x0, rfl, rfl, SqL.of ht, at0 _ _, _, rfl, t, [x0, x1], 1, x1, rfl, rfl, SqL.of ht, at1 _ _ _, call (fun j w' d H' e s ed => ⟨true, tB, fun _ a ha => ?_, fun q => nomatch q⟩) fun ds q H' e er s hh => after e er s hh⟩
      exact ⟨_, rfl, rfl, rfl, d, _, _, rfl, ed, rfl, _, rfl, rfl, rfl, d, _, _, rfl, ed, rfl, _, rfl, rfl, rfl, d, _, _, rfl, ed, rfl, (by show 4 ≤ sizeLine; decide), lost e s ed⟩
end
end Kx

set_option maxHeartbeats 4000000
namespace Kx
open PySem L2
/-! tuples joined and cut; good years in any number -/
theorem catX {K : PySem.W.Frag} {H : Hp} {a b : Addr} {xs ys : List V} {Q : VK} (ha : H a = some (.tup xs)) (hb : H b = some (.tup ys)) (n : xs.length + ys.length ≤ 1000) (k : ∀ x H', Same H H' → H' x = some (.tup (xs ++ ys)) → Q (.ref x) H') : rCatA K (.ref a) (.ref b) H Q := by
  refine ⟨a, b, xs, ys, rfl, rfl, SqT.of ha, SqT.of hb, Nat.le_of_lt (small1000 n), fun e => ?_, fun _ e => ?_, fun _ _ x hx => k x _ (sameUpd (Same.refl _) hx) upd_same⟩
  · subst e
    exact k b H (Same.refl _) hb
  · subst e
    exact k a H (Same.refl _) (by rw [List.append_nil]; exact ha)
theorem slA_fromX {K : PySem.W.Frag} {H : Hp} {a : Addr} {xs : List V} {m : Nat} {Q : VK} (ha : H a = some (.tup xs)) (k : ∀ t H', Same H H' → H' t = some (.tup (xs.drop m)) → Q (.ref t) H') : rSlA K (.ref a) (some (m : Int)) none H Q := by
  by_cases lm : m ≤ xs.length
  · exact slA_from ha lm k
  · refine ⟨a, xs, rfl, SqT.of ha, fun hw => ?_, fun hw t ht => ?_⟩
    · have e2 : HT.sIx xs.length 0 (some (m : Int)) = xs.length := by
        rw [HT.sIx_nat]; omega
      rw [e2] at hw
      have : xs = [] := List.length_eq_zero_iff.mp hw.1
      subst this
      exact k a _ (Same.refl _) (by rw [List.drop_nil]; exact ha)
    · refine k t _ (sameUpd (Same.refl _) ht) ?_
      rw [upd_same, List.drop_eq_nil_of_le (by omega)]
      unfold cutV
      rw [HT.sIx_nat, Nat.min_eq_right (by omega), List.drop_length, List.take_nil]
def GW (n m : Nat) (ks : List (Str × Int)) (ps : List Str) (ys : List (List (List Str))) : Prop := ys.length ≤ n ∧ ∀ y ∈ ys, y.length ≤ m ∧ ∀ d ∈ y, Made ks ps d
section
variable {n n2 m m2 : Nat} {ks : List (Str × Int)} {ps : List Str} {ys zs : List (List (List Str))}
theorem GoodY.gw (g : GoodY ks ps ys) : GW 8 4 ks ps ys := g
theorem GW.up (g : GW n m ks ps ys) (h1 : n ≤ n2) (h2 : m ≤ m2) : GW n2 m2 ks ps ys := ⟨Nat.le_trans g.1 h1, fun y hy => ⟨Nat.le_trans (g.2 y hy).1 h2, (g.2 y hy).2⟩⟩
theorem GW.cat (g : GW n m ks ps ys) (h : GW n2 m ks ps zs) : GW (n + n2) m ks ps (ys ++ zs) := ⟨by rw [List.length_append]; exact Nat.add_le_add g.1 h.1, fun y hy => (List.mem_append.mp hy).elim (g.2 y) (h.2 y)⟩
theorem GW.take (g : GW n m ks ps ys) (j : Nat) : GW n m ks ps (ys.take j) := ⟨by rw [List.length_take]; exact Nat.le_trans (Nat.min_le_right _ _) g.1, fun y hy => g.2 y (List.mem_of_mem_take hy)⟩
theorem GW.drop (g : GW n m ks ps ys) (j : Nat) : GW n m ks ps (ys.drop j) := ⟨by rw [List.length_drop]; exact Nat.le_trans (Nat.sub_le _ _) g.1, fun y hy => g.2 y (List.mem_of_mem_drop hy)⟩
theorem GW.few (g : GW n m ks ps ys) (hn : n ≤ 100) (hm : m ≤ 100) (gk : GoodK ks) (l : ∀ y ∈ ps, Lb y) : FewY ys := by
  refine ⟨Nat.le_trans g.1 hn, fun y hy => ⟨Nat.le_trans (g.2 y hy).1 hm, fun d hd => ?_⟩⟩
  obtain ⟨_, h2, h3⟩ := ((g.2 y hy).2 d hd).all gk l
  exact ⟨by omega, fun z hz => (h3 z hz).fine⟩
theorem GW.due (g : GW n m ks ps ys) (hn : n ≤ 100) (hm : m ≤ 100) (gk : GoodK ks) (l : ∀ y ∈ ps, Lb y) : yearsDue ks (some (yR ys)) = none := due_none (g.few hn hm gk l) fun y hy d hd => ((g.2 y hy).2 d hd).due gk l
end
theorem agreeB_comm (m : Nat) (ys zs : List (List (List Str))) : agreeB m zs ys = agreeB m ys zs := decide_eq_decide.mpr ⟨fun h => ⟨h.2.1, h.1, h.2.2.symm⟩, fun h => ⟨h.2.1, h.1, h.2.2.symm⟩⟩
theorem tup_wo {H : Hp} {p q a : Addr} {xs : List V} (hp : HandAt H p q) (h : H a = some (.tup xs)) : wo p H a = some (.tup xs) := wo_at h fun z => by
  obtain ⟨cs, u, v, w, ha, hb⟩ := hp
  rw [z, ha] at h; cases h
theorem atN {xs : List V} {j : Nat} {v : V} (h : xs[j]? = some v) : atI xs (j : Nat) = some v := by
  have lt := (List.getElem?_eq_some_iff.mp h).1
  have e : ixN xs.length ((j : Nat) : Int) = some j := by
    unfold ixN
    rw [if_pos (by omega), if_pos (by omega)]
    rfl
  unfold atI
  rw [e]
  exact h
/-- a year with a deed put in, or in another's place -/
def spliceY (y : List (List Str)) (m e : Nat) (d : List Str) : List (List Str) := y.take m ++ [d] ++ y.drop (m + e)
theorem splice_len {y : List (List Str)} {m e : Nat} {d : List Str} (h : m ≤ y.length) : (spliceY y m e d).length ≤ y.length + 1 := by
  unfold spliceY
  rw [List.length_append, List.length_append, List.length_take, List.length_drop]
  show min m y.length + 1 + (y.length - (m + e)) ≤ _
  omega
theorem GW.splice {n m : Nat} {ks : List (Str × Int)} {ps : List Str} {zs : List (List (List Str))} (g : GW n m ks ps zs) {j k e : Nat} {y : List (List Str)} {d : List Str} (hj : zs[j]? = some y) (hk : k ≤ y.length) (md : Made ks ps d) : GW n (m + 1) ks ps (zs.take j ++ [spliceY y k e d] ++ zs.drop (j + 1)) := by
  have lt := (List.getElem?_eq_some_iff.mp hj).1
  have gy := g.2 y (List.mem_of_getElem? hj)
  refine ⟨?_, fun x hx => ?_⟩
  · rw [List.length_append, List.length_append, List.length_take, List.length_drop]
    show min j zs.length + 1 + (zs.length - (j + 1)) ≤ n
    have := g.1
    omega
  · rcases List.mem_append.mp hx with hx | hx
    · rcases List.mem_append.mp hx with hx | hx
      · have q := g.2 x (List.mem_of_mem_take hx)
        exact ⟨by omega, q.2⟩
      · rw [List.mem_singleton.mp hx]
        refine ⟨by have := splice_len (e := e) (d := d) hk; omega, fun z hz => ?_⟩
        unfold spliceY at hz
        rcases List.mem_append.mp hz with hz | hz
        · rcases List.mem_append.mp hz with hz | hz
          · exact gy.2 z (List.mem_of_mem_take hz)
          · rw [List.mem_singleton.mp hz]; exact md
        · exact gy.2 z (List.mem_of_mem_drop hz)
    · have q := g.2 x (List.mem_of_mem_drop hx)
      exact ⟨by omega, q.2⟩
/-- beside an empty list -/
theorem ne_nilD {K : PySem.W.Frag} {H : Hp} {a b : Addr} {ds : List PyData} {Q : VK} (ha : Dp K H (.ref a) (.list ds)) (sh : SeqAt.shaped (.list ds) = true) (hb : H b = some (.lst [])) (q : Q (.bl (!ds.isEmpty)) H) : rNeD K (.ref a) (.ref b) H Q := by
  refine ⟨.list ds, .list [], ha, .lst (SqL.of hb) .nil, sh, by decide +kernel, ?_⟩
  cases ds <;> exact q
theorem eq_nilD {K : PySem.W.Frag} {H : Hp} {a b : Addr} {ds : List PyData} {Q : VK} (ha : Dp K H (.ref a) (.list ds)) (sh : SeqAt.shaped (.list ds) = true) (hb : H b = some (.lst [])) (q : Q (.bl ds.isEmpty) H) : rEqD K (.ref a) (.ref b) H Q := by
  refine ⟨.list ds, .list [], ha, .lst (SqL.of hb) .nil, sh, by decide +kernel, ?_⟩
  cases ds <;> exact q
theorem shaped_strss {ds : List (List Str)} (h : ∀ d ∈ ds, ∀ z ∈ d, PyData.strOk z = true) : SeqAt.shaped (.list (ds.map fun d => PyData.list (d.map PyData.str))) = true := by
  obtain ⟨a, b⟩ := lay_map (f := fun d => PyData.list (d.map PyData.str)) (n := 1) (xs := ds) fun d md => by
    obtain ⟨a, b⟩ := lay_map (f := PyData.str) (n := 0) (xs := d) fun z m => ⟨h d md z m, Nat.le_refl _⟩
    exact ⟨a, by show PyData.depthAll (d.map PyData.str) + 1 ≤ 1; omega⟩
  unfold SeqAt.shaped
  rw [Bool.and_eq_true]
  refine ⟨a, decide_eq_true ?_⟩
  show PyData.depthAll (ds.map fun d => PyData.list (d.map PyData.str)) + 1 ≤ 64
  omega
theorem shaped_ints (ns : List Nat) : SeqAt.shaped (.list (ns.map fun n => PyData.int (n : Nat))) = true := by
  obtain ⟨a, b⟩ := lay_map (f := fun n : Nat => PyData.int (n : Nat)) (n := 0) (xs := ns) fun d md => ⟨rfl, Nat.le_refl _⟩
  unfold SeqAt.shaped
  rw [Bool.and_eq_true]
  refine ⟨a, decide_eq_true ?_⟩
  show PyData.depthAll (ns.map fun n : Nat => PyData.int (n : Nat)) + 1 ≤ 64
  omega
theorem dp_ints {K : PySem.W.Frag} {H : Hp} : ∀ ns : List Nat, DpAll K H (ns.map fun n => V.int (n : Nat)) (ns.map fun n => PyData.int (n : Nat))
  | [] => .nil
  | n :: ns => .cons (.int _) (dp_ints ns)
theorem dp_strss {K : PySem.W.Frag} {H : Hp} {a : Addr} {xs : List V} {ds : List (List Str)} (ha : H a = some (.lst xs)) (p : Paired (Ss .lst H) xs ds) : Dp K H (.ref a) (.list (ds.map fun d => PyData.list (d.map PyData.str))) := by
  refine .lst (SqL.of ha) (dpAll_of (fun x d q => ?_) p)
  obtain ⟨c, rfl, g⟩ := q
  exact .lst (SqL.of g) (dp_map d)
theorem scan_noneD {ks : List (Str × Int)} : ∀ {ds : List (List Str)} (n : Nat), (∀ d ∈ ds, deedWord ks (some (d.map V.str)) = none) → scanD ks n (dR ds) = none
  | [], _, _ => rfl
  | d :: ds, n, h => by
    show (match deedWord ks (some (d.map V.str)) with | some w => some (n, w) | none => scanD ks (n + 1) (dR ds)) = none
    rw [h d (.head _)]
    exact scan_noneD (n + 1) fun e m => h e (.tail _ m)
theorem dR_inj {a b : List (List Str)} (h : dR a = dR b) : a = b := by
  have e : yR [a] = yR [b] := by
    show [some (dR a)] = [some (dR b)]
    rw [h]
  exact List.head_eq_of_cons_eq (yR_inj e)
theorem deed_lst {H : Hp} {x : V} {d : List Str} (h : Ss .lst H x d) (l : d.length ≤ 100) (f : ∀ z ∈ d, Fine z) : DeedIs H x (some (d.map V.str)) := by
  obtain ⟨a, rfl, ha⟩ := h
  exact .lst ha (strs_things f) (by rw [List.length_map]; exact l)
theorem deed_tup {H : Hp} {x : V} {d : List Str} (h : Ss .tup H x d) (l : d.length ≤ 100) (f : ∀ z ∈ d, Fine z) : DeedIs H x (some (d.map V.str)) := by
  obtain ⟨a, rfl, ha⟩ := h
  exact .tup ha (strs_things f) (by rw [List.length_map]; exact l)
theorem then_call {K : PySem.W.Frag} {C CK CB h : Addr} {H : Hp} {ks : List (Str × Int)} {ys : List (List (List Str))} {rest : List V} {ds : List (List Str)} {Q : VK} {E : XK} (hh : HistAt C CK H h ks ys) (kb : kbOk ks) (few : FewY ys) (pd : Paired (DeedIs H) rest (dR ds)) (n : rest.length ≤ 100)
    (dn : ∀ d ∈ ds, deedWord ks (some (d.map V.str)) = none) (k : ∀ q H', Same H H' → HistAt C CK H' q ks (ys ++ [ds]) → Q (.ref q) H') : spThenR K C CK CB (.ref h :: rest) H Q E := by
  refine ⟨[.ref h], rest, rfl, rfl, Nat.le_of_lt (small1000 (by omega)), fun u hu => ?_⟩
  have s1 : Same H (upd H u (.tup rest)) := sameUpd (Same.refl _) hu
  have lr := Paired.length pd
  refine ⟨h, u, ks, ys, some (dR ds), rfl, hh.keep s1, kb, few, .seq (.tup upd_same) (pr_imp pd fun _ _ z => z.keep s1) (by omega), by show (dR ds).length ≤ 100; omega, ?_⟩
  rw [show yearWord ks (some (dR ds)) = none from scan_noneD 0 dn]
  intro ds' er q H' _ s h2
  have e := dR_inj (Option.some.inj er)
  subst e
  exact k q H' (s1.trans s) h2
theorem cut_takeA (xs : List V) (m : Nat) : cutV xs none (some (m : Int)) = xs.take m := by
  unfold cutV
  have e1 : HT.sIx xs.length 0 none = 0 := rfl
  rw [e1, HT.sIx_nat, List.drop_zero, Nat.sub_zero]
  rcases Nat.le_total m xs.length with h | h
  · rw [Nat.min_eq_left h]
  · rw [Nat.min_eq_right h, List.take_length, List.take_of_length_le h]
/-- the places of the deeds that are refused -/
def dueIx (ks : List (Str × Int)) : Nat → List (Option (List V)) → List Nat
  | _, [] => []
  | n, r :: rs => if deedWord ks r = none then dueIx ks (n + 1) rs else n :: dueIx ks (n + 1) rs
theorem dueIx_app {ks : List (Str × Int)} : ∀ (n : Nat) (rs ts : List (Option (List V))), dueIx ks n (rs ++ ts) = dueIx ks n rs ++ dueIx ks (n + rs.length) ts
  | n, [], ts => rfl
  | n, r :: rs, ts => by
    have ih := dueIx_app (ks := ks) (n + 1) rs ts
    have e : n + 1 + rs.length = n + (rs.length + 1) := by omega
    rw [e] at ih
    show (if deedWord ks r = none then dueIx ks (n + 1) (rs ++ ts) else n :: dueIx ks (n + 1) (rs ++ ts)) = (if deedWord ks r = none then dueIx ks (n + 1) rs else n :: dueIx ks (n + 1) rs) ++ dueIx ks (n + (rs.length + 1)) ts
    rw [ih]
    split <;> rfl
theorem dueIx_le {ks : List (Str × Int)} : ∀ (n : Nat) (rs : List (Option (List V))), (dueIx ks n rs).length ≤ rs.length
  | n, [] => Nat.le_refl _
  | n, r :: rs => by
    have ih := dueIx_le (ks := ks) (n + 1) rs
    show (if deedWord ks r = none then dueIx ks (n + 1) rs else n :: dueIx ks (n + 1) rs).length ≤ _
    split
    · exact Nat.le_succ_of_le ih
    · exact Nat.succ_le_succ ih
theorem due_nil {ks : List (Str × Int)} : ∀ (n : Nat) (rs : List (Option (List V))), dueIx ks n rs = [] → scanD ks n rs = none
  | n, [], _ => rfl
  | n, r :: rs, h => by
    have h : (if deedWord ks r = none then dueIx ks (n + 1) rs else n :: dueIx ks (n + 1) rs) = [] := h
    by_cases e : deedWord ks r = none
    · rw [if_pos e] at h
      show (match deedWord ks r with | some w => some (n, w) | none => scanD ks (n + 1) rs) = none
      rw [e]
      exact due_nil (n + 1) rs h
    · rw [if_neg e] at h
      cases h
theorem due_cons {ks : List (Str × Int)} {j : Nat} {js : List Nat} : ∀ (n : Nat) (rs : List (Option (List V))), dueIx ks n rs = j :: js → ∃ w, scanD ks n rs = some (j, w) ∧ n ≤ j ∧ ∃ x, rs[j - n]? = some x ∧ deedWord ks x = some w
  | n, [], h => by cases h
  | n, r :: rs, h => by
    have h : (if deedWord ks r = none then dueIx ks (n + 1) rs else n :: dueIx ks (n + 1) rs) = j :: js := h
    have sc : scanD ks n (r :: rs) = match deedWord ks r with | some w => some (n, w) | none => scanD ks (n + 1) rs := rfl
    rw [sc]
    cases e : deedWord ks r with
    | none =>
      rw [if_pos e] at h
      obtain ⟨w, h1, h2, x, h3, h4⟩ := due_cons (n + 1) rs h
      refine ⟨w, h1, by omega, x, ?_, h4⟩
      rw [show j - n = (j - (n + 1)) + 1 by omega]
      exact h3
    | some w =>
      rw [if_neg (by rw [e]; simp)] at h
      have ej : n = j := (List.cons.inj h).1
      subst ej
      exact ⟨w, rfl, Nat.le_refl _, r, by rw [Nat.sub_self]; rfl, e⟩
end Kx

set_option maxHeartbeats 4000000
namespace Kx
open PySem L2
/-! deeds that are well told; other kinds -/
theorem sx_of {H : Hp} : ∀ {us : List V} {ds : List (List Str)}, Paired (DeedIs H) us (dR ds) → Paired (Sx H) us ds ∧ ∀ d ∈ ds, ∀ z ∈ d, PyData.strOk z = true
  | _, [], h => by
    cases h
    exact ⟨.nil, fun d m => nomatch m⟩
  | _, d :: ds, h => by
    have h : Paired (DeedIs H) _ (some (d.map V.str) :: dR ds) := h
    cases h with
    | cons a t =>
      obtain ⟨h1, h2⟩ := sx_of t
      have tx0 : ∀ {xs : List V}, (∀ x ∈ xs, ∃ n, Thing H x n) → xs = d.map V.str → ∀ z ∈ d, PyData.strOk z = true := fun f e z m => by
        obtain ⟨n, hn⟩ := f (.str z) (by rw [e]; exact List.mem_map_of_mem m)
        exact (hn.2 z rfl).1
      generalize hr : some (d.map V.str) = r at a
      cases a with
      | lst g f l =>
        have e := Option.some.inj hr
        refine ⟨.cons (.inl ⟨_, rfl, by rw [e]; exact g⟩) h1, fun d' m => (List.mem_cons.mp m).elim (fun q => by rw [q]; exact tx0 f e.symm) (h2 d')⟩
      | tup g f l =>
        have e := Option.some.inj hr
        refine ⟨.cons (.inr ⟨_, rfl, by rw [e]; exact g⟩) h1, fun d' m => (List.mem_cons.mp m).elim (fun q => by rw [q]; exact tx0 f e.symm) (h2 d')⟩
      | oth g l => cases hr
theorem GoodK.more {ks : List (Str × Int)} (g : GoodK ks) (h : ks.length < 6) (zk : ∀ r ∈ ks, ¬ r.1 = Str.ofString "zzzzzz") : GoodK (ks ++ [(Str.ofString "zzzzzz", 0)]) := by
  refine ⟨by rw [List.length_append]; show 1 ≤ _ + 1; omega, by rw [List.length_append]; show _ + 1 ≤ 6; omega, fun q hq => ?_, ?_⟩
  · rcases List.mem_append.mp hq with e | e
    · exact g.each q e
    · rw [List.mem_singleton.mp e]
      exact ⟨by decide +kernel, by decide +kernel, by decide, by decide⟩
  · rw [List.map_append]
    refine List.nodup_append.mpr ⟨g.nd, by simp, fun a ha b hb e => ?_⟩
    obtain ⟨r, hr, er⟩ := List.mem_map.mp ha
    have eb : b = Str.ofString "zzzzzz" := by simpa using hb
    exact zk r hr (er.trans (e.trans eb))
theorem GoodK.five {ks : List (Str × Int)} (g : GoodK ks) : GoodK (ks.take 5) := by
  have lo := g.lo
  have hi := g.hi
  refine ⟨by rw [List.length_take]; omega, by rw [List.length_take]; omega, fun q hq => g.each q (List.mem_of_mem_take hq), ?_⟩
  rw [List.map_take]
  exact g.nd.sublist (List.take_sublist _ _)
theorem ItemsAt.take {H : Hp} {xs : List V} {ks : List (Str × Int)} (h : ItemsAt H xs ks) (m : Nat) : ItemsAt H (xs.take m) (ks.take m) := by
  refine ⟨by rw [List.length_take, List.length_take, h.1], fun i x q e1 e2 => ?_⟩
  rw [List.getElem?_take] at e1 e2
  split at e1
  · rename_i lt
    rw [if_pos lt] at e2
    exact h.2 i x q e1 e2
  · cases e1
end Kx

set_option maxHeartbeats 16000000
namespace Kx
open PySem L2
structure Rp (mg : Str → Option Value) : Prop where
  repr : mg "repr" = none
  max : mg "max" = none
abbrev NLaw : List Str := ["_law_script", "_law_hand_here", "_law_rows", "_law_kinds_here", "_law_persons_here", "_law_tail", "_law_one_here", "_law_head", "_law_place", "_law_year", "_law_at", "_law_other", "_law_first", "_law_second", "_law_years", "_law_due", "_law_deeds", "_law_longer_here", "_law_told", "_law_faults", "_law_others", "_law_stranger", "_law_odd_here", "_law_k", "_law_deed", "_law_fault"]
theorem scLaw : FnScope NLaw ["_law_script"] (defScope sLaw) := ⟨rfl, rfl, rfl, by decide +kernel, rfl, by decide +kernel, by decide +kernel⟩
/-- all that the law calls -/
structure All4 (P : Program) (w : World) (K : PySem.W.Frag) (mg : Str → Option Value) (base : Heap) (C CK CB CKB CO CY ed gK gH gA gJ gT gEK gEH : Addr) (dK dH dA dJ dEK dEH : FuncData) (ds : List Value) : Prop where
  hand : HasF P w K mg base "_law_hand" 1 ["_law_script"] (spHand K)
  draw : HasF P w K mg base "_law_draw" 2 ["_law_hand_here", "_law_many"] spDraw
  one : HasF P w K mg base "_law_one" 3 ["_law_hand_here", "_law_rows"] spOne
  kinds : HasF P w K mg base "_law_kinds" 4 ["_law_hand_here"] spLKinds
  persons : HasF P w K mg base "_law_persons" 4 ["_law_hand_here"] spPersons
  made : HasF P w K mg base "_law_made_deed" 4 ["_law_hand_here", "_law_rows", "_law_persons_here"] spMade
  odd : HasF P w K mg base "_law_odd_deed" 5 ["_law_hand_here", "_law_rows", "_law_persons_here"] spOddDeed
  deed : HasF P w K mg base "_law_deed_due" 2 ["_law_rows", "_law_deed"] spLDeed
  told : HasF P w K mg base "_law_told_years" 5 ["_law_hand_here", "_law_rows", "_law_persons_here"] spTold
  tuples : HasF P w K mg base "_law_tuples" 1 ["_law_years"] spTuples
  agree : HasF P w K mg base "_law_agree" 4 ["_law_one_here", "_law_other", "_law_years"] (spLAgree C CK)
  joined : HasF P w K mg base "_law_joined" 8 ["_law_one_here", "_law_other"] (spLJoined C CK)
  longer : HasF P w K mg base "_law_longer" 8 ["_law_history", "_law_deeds"] (spLLonger K C CK)
  same : HasF P w K mg base "_law_same_ends" 1 ["_law_one_here", "_law_other", "_law_years"] spSame
  cuts : HasF P w K mg base "_law_cuts_hold" 11 ["_law_history", "_law_years"] (spCutsHold C CK)
  KX : KC K CK
  HX : HC K C
  mK : mg "Kinds" = some (.ref CK)
  mH : mg "History" = some (.ref C)
  MK : Mk K CK gK
  GK : FnOk P w K mg base (L2.CX P w) 3 gK dK ["self", "rows"] (spKinds K CK CKB)
  bK : Binds K dK ["self", "rows"] []
  MH : Mk K C gH
  GH : FnOk P w K mg base (L2.CX P w) 4 gH dH ["self", "kinds", "years"] (spHist K C CK CB)
  bH : Binds K dH ["self", "kinds", "years"] []
  bD : Binds K dH ["self", "kinds", "years"] ds
  rd : Vals [V.ref ed] ds
  we : Wnil K ed
  EK : OwnM P w K mg base CK "__eq__" 1 ["self", "other"] (spKEq CK) gEK dEK
  EH : OwnM P w K mg base C "__eq__" 2 ["self", "other"] (spHEq C CK) gEH dEH
  neK : PySem.W.findIn K (.ref CK) "__ne__" = some (some (.builtin "object.__ne__"))
  neH : PySem.W.findIn K (.ref C) "__ne__" = some (some (.builtin "object.__ne__"))
  nf : PySem.W.notFirst K C (.ref C) = true
  nfK : PySem.W.notFirst K CK (.ref CK) = true
  MA : Meth K C "agrees" gA
  GA : FnOk P w K mg base (L2.CX P w) 3 gA dA ["self", "other", "years"] (spAgrees C CK CO CY)
  bA : Binds K dA ["self", "other", "years"] []
  MJ : Meth K C "joined" gJ
  GJ : FnOk P w K mg base (L2.CX P w) 7 gJ dJ ["self", "other"] (spJoined C CK CO)
  bJ : Binds K dJ ["self", "other"] []
  MT : Meth K C "then_year" gT
  GT : FnR P w K mg base (L2.CX P w) 7 gT (spThenR K C CK CB)
theorem told_parts {H : Hp} {p g0 : Addr} {ks : List (Str × Int)} {ps : List Str} {ys : List (List (List Str))} (yg : Ys .lst (wo p H) (.ref g0) ys) (gy : GoodY ks ps ys) : ∃ xs0, H g0 = some (.lst xs0) ∧ Paired (Dx H) xs0 ys ∧ ys.length ≤ 1000 ∧ ∀ y ∈ ys, y.length ≤ 1000 := by
  obtain ⟨xs0, hx0, px0⟩ := yg.few
  refine ⟨xs0, wo_same _ _ hx0, pr_imp px0 fun _ _ h => ?_, by have := gy.1; omega, fun y hy => by have := (gy.2 y hy).1; omega⟩
  obtain ⟨c', zs, e, hc', pz⟩ := h.keep wo_same
  exact ⟨c', zs, e, hc', pr_imp pz fun _ _ q => .inl q⟩
theorem catY {K : PySem.W.Frag} {H : Hp} {a b : Addr} {ys zs : List (List (List Str))} {Q : VK} (ha : Ys .tup H (.ref a) ys) (hb : Ys .tup H (.ref b) zs) (n : ys.length + zs.length ≤ 1000) (k : ∀ x H', Same H H' → Ys .tup H' (.ref x) (ys ++ zs) → Q (.ref x) H') : rCatA K (.ref a) (.ref b) H Q := by
  obtain ⟨xs, hx, px⟩ := ha.cut
  obtain ⟨us, hu, pu⟩ := hb.cut
  refine catX hx hu (by rw [Paired.length px, Paired.length pu]; exact n) fun x H' s hh => k x H' s ⟨x, _, rfl, hh, pr_app (pr_imp px fun _ _ q => q.keep s) (pr_imp pu fun _ _ q => q.keep s)⟩
abbrev Sg (a p b kp c : Addr) (v5 v6 v7 v8 v9 v10 v11 v12 v13 v14 v15 v16 v17 v18 v19 v20 v21 v22 : Option V) : L2.St := [some (.ref a), some (.ref p), some (.ref b), some (.ref kp), some (.ref c), v5, v6, v7, v8, v9, v10, v11, v12, v13, v14, v15, v16, v17, v18, v19, v20, v21, v22, none, none, none]
/-- years as a tuple that isn't the hand's -/
abbrev Yw (p : Addr) (H : Hp) (a : Addr) (ys : List (List (List Str))) : Prop := Ys .tup (wo p H) (.ref a) ys
structure L7 (CK : Addr) (H : Hp) (p q b c kp t o e : Addr) (ks : List (Str × Int)) (ps : List Str) (zs ys hs : List (List (List Str))) : Prop where
  M : Mat H p q b c ks ps
  kd : KindsAt CK (wo p H) kp (vv ks)
  yt : Yw p H t zs
  yo : Yw p H o ys
  ye : Yw p H e hs
theorem L7.keep {CK p q b c kp t o e : Addr} {H H' : Hp} {ks : List (Str × Int)} {ps : List Str} {zs ys hs : List (List (List Str))} (l : L7 CK H p q b c kp t o e ks ps zs ys hs) (k : Keep H H' p) (hp : HandAt H' p q) : L7 CK H' p q b c kp t o e ks ps zs ys hs :=
  ⟨l.M.keep k hp, l.kd.keep (wo_keep k), l.yt.keep (wo_keep k), l.yo.keep (wo_keep k), l.ye.keep (wo_keep k)⟩
theorem L7.same {CK p q b c kp t o e : Addr} {H H' : Hp} {ks : List (Str × Int)} {ps : List Str} {zs ys hs : List (List (List Str))} (l : L7 CK H p q b c kp t o e ks ps zs ys hs) (s : Same H H') : L7 CK H' p q b c kp t o e ks ps zs ys hs := l.keep (Same.keep s) (l.M.hp.same s)
/-- the law's histories and years -/
structure LQ (C CK : Addr) (H : Hp) (p q b c kp o f h1 h2 : Addr) (ks : List (Str × Int)) (ps : List Str) (ys ws : List (List (List Str))) : Prop where
  M : Mat H p q b c ks ps
  kd : KindsAt CK (wo p H) kp (vv ks)
  yo : Yw p H o ys
  yf : Yw p H f ws
  a1 : HistAt C CK (wo p H) h1 ks ys
  a2 : HistAt C CK (wo p H) h2 ks ws
theorem LQ.keep {C CK p q b c kp o f h1 h2 : Addr} {H H' : Hp} {ks : List (Str × Int)} {ps : List Str} {ys ws : List (List (List Str))} (l : LQ C CK H p q b c kp o f h1 h2 ks ps ys ws) (k : Keep H H' p) (hp : HandAt H' p q) : LQ C CK H' p q b c kp o f h1 h2 ks ps ys ws :=
  ⟨l.M.keep k hp, l.kd.keep (wo_keep k), l.yo.keep (wo_keep k), l.yf.keep (wo_keep k), l.a1.keep (wo_keep k), l.a2.keep (wo_keep k)⟩
theorem LQ.same {C CK p q b c kp o f h1 h2 : Addr} {H H' : Hp} {ks : List (Str × Int)} {ps : List Str} {ys ws : List (List (List Str))} (l : LQ C CK H p q b c kp o f h1 h2 ks ps ys ws) (s : Same H H') : LQ C CK H' p q b c kp o f h1 h2 ks ps ys ws := l.keep (Same.keep s) (l.M.hp.same s)
theorem law_body {P : Program} {w : World} {K : PySem.W.Frag} {mg : Str → Option Value} {base : Heap} {fa C CK CB CKB CO CY ed gK gH gA gJ gT gEK gEH : Addr} {dK dH dA dJ dEK dEH : FuncData} {ds : List Value} (T : Bl mg) (B : Bm mg) (R : Rp mg) (A : All4 P w K mg base C CK CB CKB CO CY ed gK gH gA gJ gT gEK gEH dK dH dA dJ dEK dEH ds) : LawBody P w K mg base NLaw "law" sLaw fa 11 := by
  intro cdv s H a ns hr hS hn'
  obtain ⟨f1, d1, Hd⟩ := A.hand; obtain ⟨f2, d2, D⟩ := A.draw; obtain ⟨f3, d3, O⟩ := A.one; obtain ⟨f4, d4, Ks⟩ := A.kinds; obtain ⟨f5, d5, Pe⟩ := A.persons; obtain ⟨f6, d6, Tl⟩ := A.told; obtain ⟨f7, d7, Tu⟩ := A.tuples
  obtain ⟨f8, d8, G⟩ := A.made; obtain ⟨f9, d9, Od⟩ := A.odd; obtain ⟨f10, d10, De⟩ := A.deed; obtain ⟨f11, d11, Ag⟩ := A.agree; obtain ⟨f12, d12, Jo⟩ := A.joined; obtain ⟨f13, d13, Lo⟩ := A.longer; obtain ⟨f14, d14, Sa⟩ := A.same; obtain ⟨f15, d15, Cu⟩ := A.cuts
  have hr1 : Room 1 _ := hr.mono (by decide)
  have hr2 : Room 2 _ := hr.mono (by decide)
  have hr3 : Room 3 _ := hr.mono (by decide)
  have hr4 : Room 4 _ := hr.mono (by decide)
  have hr5 : Room 5 _ := hr.mono (by decide)
  have hr7 : Room 7 _ := hr.mono (by decide)
  have hr8 : Room 8 _ := hr.mono (by decide)
  refine ⟨_, (pss_cons (ps_set (i := 1) scLaw.nd rfl (Or.inr rfl) (pe_call Hd.G hr1 (by rfl) Hd.m Hd.kp Hd.b .nil pass0 (pa_cons (pv 0) pa_nil)))
    (pss_cons (ps_set (i := 2) scLaw.nd rfl (Or.inr rfl) (pe_call Ks.G hr4 (by rfl) Ks.m Ks.kp Ks.b .nil pass0 (pa_cons (pv 1) pa_nil)))
    (pss_cons (ps_set (i := 3) scLaw.nd rfl (Or.inl rfl) (pe_make A.MK A.GK hr4 (by rfl) A.mK A.bK .nil passL (pa_cons (pv 2) pa_nil)))
    (pss_cons (ps_set (i := 4) scLaw.nd rfl (Or.inr rfl) (pe_call Pe.G hr4 (by rfl) Pe.m Pe.kp Pe.b .nil pass0 (pa_cons (pv 1) pa_nil)))
    (pss_cons (ps_set (i := 5) scLaw.nd rfl (Or.inl rfl) (pe_call Tu.G hr1 (by rfl) Tu.m Tu.kp Tu.b .nil pass0 (pa_cons (pe_call Tl.G hr5 (by rfl) Tl.m Tl.kp Tl.b .nil pass0 (pa_cons (pv 1) (pa_cons (pv 2) (pa_cons (pv 4) pa_nil)))) pa_nil)))
    (pss_cons (ps_set (i := 6) scLaw.nd rfl (Or.inl rfl) (pe_op op_catA (pe_call Tu.G hr1 (by rfl) Tu.m Tu.kp Tu.b .nil pass0 (pa_cons (pe_call Tl.G hr5 (by rfl) Tl.m Tl.kp Tl.b .nil pass0 (pa_cons (pv 1) (pa_cons (pv 2) (pa_cons (pv 4) pa_nil)))) pa_nil)) (pv 5)))
    (C8.pss_cut (ps_set (i := 7) scLaw.nd rfl (Or.inl rfl) (pe_ifExp (pt_cmpR op_eq (pe_call D.G hr2 (by rfl) D.m D.kp D.b .nil pass0 (pa_cons (pv 1) (pa_cons pe_int pa_nil))) pe_int (nomark _)) (pe_slice sl_tupA (pv 6) po_none (po_some (pe_op op_sub (pe_callB call_len_seq (by rfl) T.len PySem.boot_len (pa_cons (pv 6) pa_nil)) (pe_callB call_len_seq (by rfl) T.len PySem.boot_len (pa_cons (pv 5) pa_nil))))) (pe_call Tu.G hr1 (by rfl) Tu.m Tu.kp Tu.b .nil pass0 (pa_cons (pe_call Tl.G hr5 (by rfl) Tl.m Tl.kp Tl.b .nil pass0 (pa_cons (pv 1) (pa_cons (pv 2) (pa_cons (pv 4) pa_nil)))) pa_nil))))
    (C8.pss_cut (ps_if (PW.pt (pw_and (pt_cmpR (op_neD hr.units) (pv 5) (pe_tup pa_nil) (nomark _)) (pw_and1 (pt_cmpR op_eq (pe_call D.G hr2 (by rfl) D.m D.kp D.b .nil pass0 (pa_cons (pv 1) (pa_cons pe_int pa_nil))) pe_int (nomark _)))))
      (pss_cons (ps_set (i := 8) scLaw.nd rfl (Or.inl rfl) (pe_call D.G hr2 (by rfl) D.m D.kp D.b .nil pass0 (pa_cons (pv 1) (pa_cons (pe_callB call_len_seq (by rfl) T.len PySem.boot_len (pa_cons (pv 5) pa_nil)) pa_nil)))) (pss_cons (ps_set (i := 9) scLaw.nd rfl (Or.inl rfl) (pe_ix ix_tup (pv 5) (pv 8) (fun _ _ => rfl))) (pss_cons (ps_set (i := 10) scLaw.nd rfl (Or.inl rfl) (pe_call D.G hr2 (by rfl) D.m D.kp D.b .nil pass0 (pa_cons (pv 1) (pa_cons (pe_op op_add (pe_callB call_len_seq (by rfl) T.len PySem.boot_len (pa_cons (pv 9) pa_nil)) pe_int) pa_nil))))
        (pss_cons (ps_set (i := 9) scLaw.nd rfl (Or.inl rfl) (pe_op op_catA (pe_op op_catA (pe_slice sl_tupA (pv 9) po_none (po_some (pv 10))) (pe_tup (pa_cons (pe_callTy call_tuple_of (by rfl) B.tuple (by decide +kernel) (pa_cons (pe_call G.G hr4 (by rfl) G.m G.kp G.b .nil pass0 (pa_cons (pv 1) (pa_cons (pv 2) (pa_cons (pv 4) pa_nil)))) pa_nil)) pa_nil))) (pe_slice sl_tupA (pv 9) (po_some (pe_op op_add (pv 10) (pe_call D.G hr2 (by rfl) D.m D.kp D.b .nil pass0 (pa_cons (pv 1) (pa_cons pe_int pa_nil))))) po_none)))
          (pss_one (ps_set (i := 5) scLaw.nd rfl (Or.inl rfl) (pe_op op_catA (pe_op op_catA (pe_slice sl_tupA (pv 5) po_none (po_some (pv 8))) (pe_tup (pa_cons (pv 9) pa_nil))) (pe_slice sl_tupA (pv 5) (po_some (pe_op op_add (pv 8) pe_int)) po_none)))))))) pss_nil)
    (C8.pss_cut (ps_set (i := 11) scLaw.nd rfl (Or.inl rfl) (pe_op op_catA (pv 7) (pv 5)))
    (C8.pss_cut (ps_par (i := 12) (j := 13) rfl scLaw.nd rfl rfl (by decide) rfl rfl (pa_cons (pe_make A.MH A.GH hr5 (by rfl) A.mH A.bH .nil passL (pa_cons (pv 3) (pa_cons (pv 6) pa_nil))) (pa_cons (pe_make A.MH A.GH hr5 (by rfl) A.mH A.bH .nil passL (pa_cons (pv 3) (pa_cons (pv 11) pa_nil))) pa_nil)) rfl)
    (C8.pss_cut (ps_if (PW.pt (pw_or (pt_not (pt_val (pe_call Cu.G hr (by rfl) Cu.m Cu.kp Cu.b .nil pass0 (pa_cons (pv 12) (pa_cons (pv 6) pa_nil))))) (pw_or1 (pt_not (pt_val (pe_call Cu.G hr (by rfl) Cu.m Cu.kp Cu.b .nil pass0 (pa_cons (pv 13) (pa_cons (pv 11) pa_nil)))))))) (pss_one ps_never) pss_nil)
    (C8.pss_cut (ps_for PassesOwn.never rfl (pi_range1 (by rfl) T.range (pa_cons (pe_op op_add (pe_callB (call_max2 rfl) (by rfl) R.max (by decide +kernel) (pa_cons (pe_callB call_len_seq (by rfl) T.len PySem.boot_len (pa_cons (pv 6) pa_nil)) (pa_cons (pe_callB call_len_seq (by rfl) T.len PySem.boot_len (pa_cons (pv 11) pa_nil)) pa_nil))) pe_int) pa_nil)) (pg_name (i := 14) scLaw.nd rfl (.inl rfl))
      (pss_cons (ps_set (i := 15) scLaw.nd rfl (Or.inl rfl) (pe_call Sa.G hr1 (by rfl) Sa.m Sa.kp Sa.b .nil pass0 (pa_cons (pv 6) (pa_cons (pv 11) (pa_cons (pv 14) pa_nil)))))
        (pss_one (ps_if (PW.pt (pw_or (pt_cmpR op_ne (pe_callB (call_reprD rfl hr.units) (by rfl) R.repr (by decide +kernel) (pa_cons (pe_meth (pv 12) A.HX.cl A.MA A.GA hr3 A.bA .nil passL (pa_cons (pv 13) (pa_cons (pv 14) pa_nil))) pa_nil)) (pe_callB (call_reprD rfl hr.units) (by rfl) R.repr (by decide +kernel) (pa_cons (pv 15) pa_nil)) (nomark _)) (pw_or1 (pt_cmpR op_ne (pe_callB (call_reprD rfl hr.units) (by rfl) R.repr (by decide +kernel) (pa_cons (pe_meth (pv 13) A.HX.cl A.MA A.GA hr3 A.bA .nil passL (pa_cons (pv 12) (pa_cons (pv 14) pa_nil))) pa_nil)) (pe_callB (call_reprD rfl hr.units) (by rfl) R.repr (by decide +kernel) (pa_cons (pv 15) pa_nil)) (nomark _))))) (pss_one ps_never) pss_nil))))
    (C8.pss_cut (ps_if (PW.pt (pw_or (pt_cmpR op_isnot_bl (pe_meth (pv 12) A.HX.cl A.MA A.GA hr3 A.bA .nil passL (pa_cons (pv 13) (pa_cons (pe_op op_pow pe_int pe_int) pa_nil))) pe_bl (nomark _)) (pw_or (pt_cmpR (op_neD hr.units) (pe_fld (pe_meth (pv 12) A.HX.cl A.MJ A.GJ hr7 A.bJ .nil passL (pa_cons (pv 13) pa_nil)) rfl) (pe_op op_catA (pv 6) (pv 11)) (nomark _)) (pw_or1 (pt_cmpR (op_neD hr.units) (pe_fld (pe_meth (pv 13) A.HX.cl A.MJ A.GJ hr7 A.bJ .nil passL (pa_cons (pv 12) pa_nil)) rfl) (pe_op op_catA (pv 11) (pv 6)) (nomark _)))))) (pss_one ps_never) pss_nil)
    (C8.pss_cut (ps_setLc (i := 16) (own := [("_law_k", 23)]) (g := gName 23) (tt := tYes) (by rfl) scLaw.nd rfl rfl (sw_true rfl rfl rfl (by decide +kernel)) (pi_range1 (by rfl) T.range (pa_cons (pe_call D.G hr2 (by rfl) D.m D.kp D.b .nil pass0 (pa_cons (pv 1) (pa_cons pe_int pa_nil))) pa_nil)) (blkOk_by (own := [("_law_k", 23)]) (N := NLaw) (sc := defScope sLaw) (by decide +kernel)) (fun _ _ _ _ _ => pg_name (i := 23) scLaw.nd rfl (Or.inl rfl)) (fun _ _ _ _ _ => pts_nil) (fun _ _ _ _ _ => (pe_call G.G hr4 (by rfl) G.m G.kp G.b .nil pass0 (pa_cons (pv 1) (pa_cons (pv 2) (pa_cons (pv 4) pa_nil))))))
    (pss_cons (ps_set (i := 17) scLaw.nd rfl (Or.inl rfl) (pe_methR0 (pv 12) A.HX.cl A.MT A.GT hr7 passL))
    (C8.pss_cut (ps_if (pt_cmpR (op_neD hr.units) (pv 16) (pe_lst pa_nil) (nomark _)) (pss_one (ps_set (i := 17) scLaw.nd rfl (Or.inl rfl) (pe_ifExp (pt_cmpR op_eq (pe_callB call_len_seq (by rfl) T.len PySem.boot_len (pa_cons (pv 16) pa_nil)) pe_int (nomark _)) (pe_methR (pv 12) A.HX.cl A.MT A.GT hr7 passL (pa_cons (pe_ix ix_list (pv 16) pe_int (fun _ _ => rfl)) pa_nil)) (pe_methR (pv 12) A.HX.cl A.MT A.GT hr7 passL (pa_cons (pe_ix ix_list (pv 16) pe_int (fun _ _ => rfl)) (pa_cons (pe_callTy call_tuple_of (by rfl) B.tuple (by decide +kernel) (pa_cons (pe_ix ix_list (pv 16) pe_int (fun _ _ => rfl)) pa_nil)) pa_nil)))))) pss_nil)
    (C8.pss_cut (ps_if (PW.pt (pw_or (pt_cmpR (op_neD hr.units) (pe_fld (pv 17) rfl) (pe_op op_catA (pv 6) (pe_call Tu.G hr1 (by rfl) Tu.m Tu.kp Tu.b .nil pass0 (pa_cons (pe_lst (pa_cons (pe_slice sl_list (pv 16) po_none (po_some pe_int)) pa_nil)) pa_nil))) (nomark _)) (pw_or1 (pt_cmpR (op_neOwn A.KX.cm A.neK A.EK.M.at_ A.EK.M.fn A.EK.raw hr2 pass0) (pe_fld (pv 17) rfl) (pv 3) (nomark _))))) (pss_one ps_never) pss_nil)
    (C8.pss_cut (ps_setLc (i := 18) (own := [("_law_k", 23)]) (g := gName 23) (tt := tYes) (by rfl) scLaw.nd rfl rfl (sw_true rfl rfl rfl (by decide +kernel)) (pi_range1 (by rfl) T.range (pa_cons (pe_op op_add pe_int (pe_call D.G hr2 (by rfl) D.m D.kp D.b .nil pass0 (pa_cons (pv 1) (pa_cons pe_int pa_nil)))) pa_nil)) (blkOk_by (own := [("_law_k", 23)]) (N := NLaw) (sc := defScope sLaw) (by decide +kernel)) (fun _ _ _ _ _ => pg_name (i := 23) scLaw.nd rfl (Or.inl rfl)) (fun _ _ _ _ _ => pts_nil) (fun _ _ _ _ _ => (pe_call Od.G hr5 (by rfl) Od.m Od.kp Od.b .nil pass0 (pa_cons (pv 1) (pa_cons (pv 2) (pa_cons (pv 4) pa_nil))))))
    (C8.pss_cut (ps_setLc (i := 19) (own := [("_law_deed", 24)]) (g := gName 24) (tt := tYes) (by rfl) scLaw.nd rfl rfl (sw_true rfl rfl rfl (by decide +kernel)) (pi_seq (pv 18)) (blkOk_by (own := [("_law_deed", 24)]) (N := NLaw) (sc := defScope sLaw) (by decide +kernel)) (fun _ _ _ _ _ => pg_name (i := 24) scLaw.nd rfl (Or.inl rfl)) (fun _ _ _ _ _ => pts_nil) (fun _ _ _ _ _ => (pe_call De.G hr2 (by rfl) De.m De.kp De.b .nil pass0 (pa_cons (pv 2) (pa_cons (pv 24) pa_nil)))))
    (C8.pss_cut (ps_setLc (i := 15) (own := [("_law_k", 23), ("_law_fault", 25)]) (g := gTup K 2 (gCons (gName 23) (gCons (gName 25) gNil))) (by rfl) scLaw.nd rfl rfl (sw_true rfl rfl rfl (by decide +kernel)) (pi_enumB (by rfl) T.enumerate (pa_cons (pv 19) pa_nil)) (blkOk_by (own := [("_law_k", 23), ("_law_fault", 25)]) (N := NLaw) (sc := defScope sLaw) (by decide +kernel)) (fun _ _ _ _ _ => pg_tup rfl (pgs_cons (pg_name scLaw.nd rfl (.inl rfl)) (pgs_cons (pg_name scLaw.nd rfl (.inl rfl)) pgs_nil))) (fun _ _ _ _ _ => pts_one (t := tTest (tOp (fun x y H Q => y = V.non ∧ Q (.bl (!decide (x = .non))) H) (tVar 25) (tC V.non))) (pt_cmpR op_notN (pv 25) pe_non (nomark _))) (fun _ _ _ _ _ => (pv 23)))
    (C8.pss_cut (ps_if (PW.pt (pw_and (pt_cmpR (op_neD hr.units) (pv 15) (pe_lst pa_nil) (nomark _)) (pw_and1 (pt_cmpR (op_neL hr.units) (pe_call Lo.G hr8 (by rfl) Lo.m Lo.kp Lo.b .nil pass0 (pa_cons (pv 12) (pa_cons (pv 18) pa_nil))) (pe_lst (pa_cons pe_str (pa_cons (pe_callB call_len_seq (by rfl) T.len PySem.boot_len (pa_cons (pv 6) pa_nil)) (pa_cons (pe_ix ix_list (pv 15) pe_int (fun _ _ => rfl)) (pa_cons (pe_ix ix_list (pv 19) (pe_ix ix_list (pv 15) pe_int (fun _ _ => rfl)) (fun _ _ => rfl)) pa_nil))))) (nomark _))))) (pss_one ps_never) pss_nil)
    (C8.pss_cut (ps_if (PW.pt (pw_and (pt_cmpR (op_eqD hr.units) (pv 15) (pe_lst pa_nil) (nomark _)) (pw_and1 (pt_cmpR (op_neD hr.units) (pe_call Lo.G hr8 (by rfl) Lo.m Lo.kp Lo.b .nil pass0 (pa_cons (pv 12) (pa_cons (pv 18) pa_nil))) (pe_op op_catA (pv 6) (pe_call Tu.G hr1 (by rfl) Tu.m Tu.kp Tu.b .nil pass0 (pa_cons (pe_lst (pa_cons (pv 18) pa_nil)) pa_nil))) (nomark _))))) (pss_one ps_never) pss_nil)
    (C8.pss_cut (ps_set (i := 20) scLaw.nd rfl (Or.inl rfl) (pe_make A.MK A.GK hr4 (by rfl) A.mK A.bK .nil passL (pa_cons (pe_ifExp (pt_cmpR op_lt (pe_callB call_len_seq (by rfl) T.len PySem.boot_len (pa_cons (pv 2) pa_nil)) pe_int (nomark _)) (pe_op op_cat (pv 2) (pe_lst (pa_cons (pe_tup (pa_cons (pe_slice sl_str pe_str po_none (po_some pe_int)) (pa_cons pe_int pa_nil))) pa_nil))) (pe_slice sl_list (pv 2) po_none (po_some pe_int))) pa_nil)))
    (C8.pss_cut (ps_set (i := 21) scLaw.nd rfl (Or.inl rfl) (pe_make A.MH A.GH hr5 (by rfl) A.mH A.bD A.rd passL (pa_cons (pv 20) pa_nil)))
    (C8.pss_cut (ps_set (i := 22) scLaw.nd rfl (Or.inl rfl) (pe_call O.G hr3 (by rfl) O.m O.kp O.b .nil pass0 (pa_cons (pv 1) (pa_cons (pe_lst (pa_cons (pe_un un_neg pe_int) (pa_cons (pe_op op_add (pe_op op_pow pe_int pe_int) pe_int) (pa_cons pe_bl (pa_cons pe_non (pa_cons pe_str (pa_cons (pe_lst (pa_cons pe_int pa_nil)) pa_nil))))))) pa_nil))))
    (C8.pss_cut (ps_if (PW.pt (pw_or (pt_cmpR (op_neL hr.units) (pe_call Ag.G hr4 (by rfl) Ag.m Ag.kp Ag.b .nil pass0 (pa_cons (pv 12) (pa_cons (pv 13) (pa_cons (pv 22) pa_nil)))) (pe_lst (pa_cons pe_str (pa_cons (pv 22) pa_nil))) (nomark _)) (pw_or1 (pt_cmpR (op_neL hr.units) (pe_call Ag.G hr4 (by rfl) Ag.m Ag.kp Ag.b .nil pass0 (pa_cons (pv 12) (pa_cons (pv 21) (pa_cons (pv 22) pa_nil)))) (pe_lst (pa_cons pe_str (pa_cons pe_bl pa_nil))) (nomark _))))) (pss_one ps_never) pss_nil)
    (C8.pss_cut (ps_if (PW.pt (pw_or (pt_cmpR (op_neL hr.units) (pe_call Jo.G hr8 (by rfl) Jo.m Jo.kp Jo.b .nil pass0 (pa_cons (pv 12) (pa_cons (pv 21) pa_nil))) (pe_lst (pa_cons pe_str (pa_cons pe_bl pa_nil))) (nomark _)) (pw_or1 (pt_cmpR (op_neL hr.units) (pe_call Jo.G hr8 (by rfl) Jo.m Jo.kp Jo.b .nil pass0 (pa_cons (pv 21) (pa_cons (pv 12) pa_nil))) (pe_lst (pa_cons pe_str (pa_cons pe_bl pa_nil))) (nomark _))))) (pss_one ps_never) pss_nil)
    (pss_one (ps_ret (pe_and (pe_cmpR (op_eqD hr.units) (pe_fld (pv 12) rfl) (pv 6) (nomark _)) (pe_and (pe_cmpR (op_eqD hr.units) (pe_fld (pv 13) rfl) (pv 11) (nomark _)) (pe_and (pe_cmpR (op_eqOwn A.EK.M.at_ A.EK.M.fn A.EK.raw hr1 pass0) (pe_fld (pv 12) rfl) (pv 3) (nomark _)) (pe_one (pe_cmpR (op_eqOwn A.EH.M.at_ A.EH.M.fn A.EH.raw hr2 pass0) (pv 12) (pe_make A.MH A.GH hr5 (by rfl) A.mH A.bH .nil passL (pa_cons (pv 3) (pa_cons (pv 6) pa_nil))) (nomark _))))))))))))))))))))))))))))))))))), ?_⟩
  refine ⟨_, rfl, a, ns, rfl, hS, hn', fun p q H1 hp0 hq0 nqp hp1 s1 => ?_⟩
  refine ⟨_, rfl, p, q, rfl, hp1, fun b ks H2 gk zk gl hb0 hp2 k2 => ?_⟩
  refine ⟨_, rfl, ?_⟩
  refine mk_kinds gk (gl.keep wo_same) fun kp H3 _ s3 kd => ?_
  have hp3 := hp2.same s3
  refine ⟨_, rfl, p, q, rfl, hp3, fun c ps H4 hc ne few lab hp4 k4 => ?_⟩
  have M4 : Mat H4 p q b c ks ps := ⟨hp4, (gl.keep (wo_mono s3)).keep (wo_keep k4), gk, hc, ne, few, lab⟩
  have kd4 := (kd.wo hp3).keep (wo_keep k4)
  clear hp1 s1 hp2 k2 gl kd hp3 k4 hc s3 hp4
  refine ⟨_, rfl, _, rfl, _, rfl, p, q, b, c, ks, ps, rfl, M4, fun g0 zs H5a yg0 gz _ hp5a k5a => ?_⟩
  obtain ⟨xa, hxa, pxa, na, nb⟩ := told_parts yg0 gz
  refine ⟨g0, xa, zs, rfl, hxa, pxa, na, nb, fun t H5 _ s5 yt => ?_⟩
  have hp5 := hp5a.same s5
  have k5 := k5a.trans (Same.keep s5)
  clear hxa pxa na nb hp5a k5a s5 yg0
  have M5 := M4.keep k5 hp5
  have kd5 := kd4.keep (wo_keep k5)
  have yt5 := yt.wo hp5
  clear M4 kd4 k5 hp5 yt
  refine ⟨_, rfl, _, rfl, _, rfl, p, q, b, c, ks, ps, rfl, M5, fun g1 ys0 H6a yg1 gy0 _ hp6a k6a => ?_⟩
  obtain ⟨xb, hxb, pxb, na, nb⟩ := told_parts yg1 gy0
  refine ⟨g1, xb, ys0, rfl, hxb, pxb, na, nb, fun t2 H6 _ s6 yt2 => ?_⟩
  have hp6 := hp6a.same s6
  have k6 := k6a.trans (Same.keep s6)
  clear hxb pxb na nb hp6a k6a s6 yg1
  have M6 := M5.keep k6 hp6
  have kd6 := kd5.keep (wo_keep k6)
  have yt6 := yt5.keep (wo_keep k6)
  clear M5 kd5 k6 yt5
  refine ⟨_, rfl, catY yt2 (yt6.keep wo_same) (by have := gy0.1; have := gz.1; omega) fun o H7 s7 yo => ?_⟩
  have gy : GW 16 4 ks ps (ys0 ++ zs) := gy0.gw.cat gz.gw
  have hp7 := hp6.same s7
  have l6 : L7 CK H7 p q b c kp t o o ks ps zs (ys0 ++ zs) (ys0 ++ zs) := ⟨M6.keep (Same.keep s7) hp7, kd6.keep (wo_mono s7), yt6.keep (wo_mono s7), yo.wo hp7, yo.wo hp7⟩
  clear M6 kd6 yt6 hp6 s7 yo hp7 yt2
  have lyz : zs.length ≤ (ys0 ++ zs).length := by rw [List.length_append]; omega
  generalize ys0 ++ zs = ys at gy l6 lyz
  refine ⟨fun σ H => ∃ e hs, σ = Sg a p b kp c (some (.ref t)) (some (.ref o)) (some (.ref e)) none none none none none none none none none none none none none none none ∧ L7 CK H p q b c kp t o e ks ps zs ys hs ∧ GW 16 4 ks ps hs, ?_, ?_⟩
  · refine ⟨_, rfl, p, q, 8, rfl, l6.M.hp, by decide, by decide, fun w1 H8 w0 w8 hp8 k8 => ?_⟩
    have l8 := l6.keep k8 hp8
    refine ⟨rfl, _, rfl, ?_⟩
    refine ite2 (fun h0 => ?_) (fun h0 => ?_)
    · obtain ⟨xs, hx, px⟩ := l8.yo.cut
      obtain ⟨us, hu, pu⟩ := l8.yt.cut
      have lx := Paired.length px
      have lu := Paired.length pu
      have hx' := (wo_get hx).1
      have hu' := (wo_get hu).1
      refine ⟨_, rfl, _, rfl, o, xs, rfl, .inr (SqT.of hx'), _, rfl, t, us, rfl, .inr (SqT.of hu'), _, _, rfl, rfl, _, rfl, ?_⟩
      rw [show (((xs.length : Nat) : Int) - ((us.length : Nat) : Int)) = (((xs.length - us.length : Nat)) : Int) by omega]
      refine slA_to hx' (Nat.sub_le _ _) fun e H9 s9 he => ?_
      have l9 := l8.same s9
      have ye : Ys .tup H9 (.ref e) (ys.take (xs.length - us.length)) := Ys.take he (pr_imp px fun _ _ q => q.keep (wo_same.trans s9))
      exact ⟨e, _, rfl, ⟨l9.M, l9.kd, l9.yt, l9.yo, ye.wo l9.M.hp⟩, gy.take _⟩
    · refine ⟨_, rfl, _, rfl, _, rfl, p, q, b, c, ks, ps, rfl, l8.M, fun g1 hs H9a yg1 ge _ hp9a k9a => ?_⟩
      obtain ⟨xb, hxb, pxb, na, nb⟩ := told_parts yg1 ge
      refine ⟨g1, xb, hs, rfl, hxb, pxb, na, nb, fun e H9 _ s9 ye => ?_⟩
      have hp9 := hp9a.same s9
      have k9 := k9a.trans (Same.keep s9)
      have l9 := l8.keep k9 hp9
      exact ⟨e, hs, rfl, ⟨l9.M, l9.kd, l9.yt, l9.yo, ye.wo hp9⟩, ge.gw.up (by decide) (by decide)⟩
  clear l6
  rintro σ H10 ⟨e, hs, rfl, l10, ge⟩
  have gz5 : GW 8 5 ks ps zs := gz.gw.up (by decide) (by decide)
  have oz : OkY zs := (gz.few gk lab).ok
  refine ⟨fun σ H => ∃ t v8 v9 v10 zs, σ = Sg a p b kp c (some (.ref t)) (some (.ref o)) (some (.ref e)) v8 v9 v10 none none none none none none none none none none none none ∧ L7 CK H p q b c kp t o e ks ps zs ys hs ∧ GW 8 5 ks ps zs, ?_, ?_⟩
  · refine ⟨_, rfl, Nat.zero_le _, fun u hu => ?_⟩
    have l1 := l10.same (sameUpd (o := .tup []) (Same.refl _) hu)
    refine ⟨dYs zs, dYs [], (l1.yt.keep wo_same).dp, Ys.dp ⟨u, [], rfl, upd_same, .nil⟩, shaped_dYs oz, shaped_dYs (fun _ h => nomatch h), _, rfl, ?_⟩
    rw [eqv_dYs]
    by_cases hz : zs = []
    · rw [decide_eq_true hz]
      exact iteF (iteF ⟨t, _, _, _, zs, rfl, l1, gz5⟩)
    rw [decide_eq_false hz]
    have zpos : 0 < zs.length := List.length_pos_iff.mpr hz
    have z8 := gz.1
    refine iteT ⟨_, rfl, p, q, 3, rfl, l1.M.hp, by decide, by decide, fun w2 H12 _ _ hp12 k12 => ⟨rfl, _, rfl, ?_⟩⟩
    have l12 := l1.keep k12 hp12
    clear l1 l10 hu
    refine ite2 (fun h2 => ?_) (fun h2 => ?_)
    · obtain ⟨us, hu2, pu⟩ := l12.yt.cut
      have lu := Paired.length pu
      refine ⟨_, rfl, _, rfl, t, us, rfl, .inr (SqT.of (wo_get hu2).1), p, q, _, rfl, l12.M.hp, by omega, Nat.lt_of_le_of_lt (show _ ≤ 8 by omega) (by decide), fun w3 H13 w30 w3n hp13 k13 => ?_⟩
      obtain ⟨j, rfl⟩ := Int.eq_ofNat_of_zero_le w30
      have l13 := l12.keep k13 hp13
      have hu3 := wo_keep k13 _ _ hu2
      obtain ⟨y, hy⟩ : ∃ y, zs[j]? = some y := ⟨zs[j]'(by omega), List.getElem?_eq_getElem (by omega)⟩
      obtain ⟨yv, hyv⟩ : ∃ v, us[j]? = some v := ⟨us[j]'(by omega), List.getElem?_eq_getElem (by omega)⟩
      obtain ⟨y2, hy2, dy⟩ := pr_get pu hyv
      rw [hy] at hy2
      cases hy2
      obtain ⟨yb, ds, rfl, hyb, pds⟩ := dy.keep (wo_keep k13)
      have ld := Paired.length pds
      have y4 := (gz.2 y (List.mem_of_getElem? hy)).1
      clear l12 k13 k12 hp12 dy
      refine ⟨_, rfl, _, rfl, t, us, (j : Nat), _, rfl, rfl, SqT.of (wo_get hu3).1, atN hyv, ?_⟩
      refine ⟨_, rfl, _, rfl, yb, ds, rfl, .inr (SqT.of (wo_get hyb).1), _, _, rfl, rfl, p, q, _, rfl, l13.M.hp, by omega, Nat.lt_of_le_of_lt (show _ ≤ 5 by omega) (by decide), fun w4 H14 w40 w4n hp14 k14 => ?_⟩
      obtain ⟨m, rfl⟩ := Int.eq_ofNat_of_zero_le w40
      have l14 := l13.keep k14 hp14
      have hu4 := wo_keep k14 _ _ hu3
      have hyb4 := wo_keep k14 _ _ hyb
      have pds4 : Paired (Ss .tup (wo p H14)) ds y := pr_imp pds fun _ _ q => q.keep (wo_keep k14)
      obtain ⟨us', hu', pu4⟩ := l14.yt.cut
      rw [hu4] at hu'
      cases hu'
      clear l13 k14 hp13 hyb hu3 hu2 pu pds
      refine ⟨_, rfl, _, rfl, _, rfl, ?_⟩
      refine slA_to (wo_get hyb4).1 (by omega) fun t1 Ha sa ht1 => ?_
      have la := l14.same sa
      refine ⟨_, rfl, _, rfl, _, rfl, p, q, b, c, ks, ps, rfl, la.M, fun d zd Hb fr md => ?_⟩
      refine ⟨d, _, rfl, .inl ⟨SqL.of fr.hb, fun l hl => ?_⟩⟩
      refine ⟨(by show 1 ≤ sizeLine; decide), fun u2 hu2 => ?_⟩
      have sbc : Same Hb (upd Hb l (.tup (zd.map V.str))) := sameUpd (Same.refl _) hl
      have scd := sameUpd (o := .tup [V.ref l]) (Same.refl (upd Hb l (.tup (zd.map V.str)))) hu2
      have lb := la.keep fr.kp fr.hp
      have ld := (lb.same sbc).same scd
      have wab := wo_keep fr.kp
      have w14b : Same (wo p H14) (wo p (upd (upd Hb l (.tup (zd.map V.str))) u2 (.tup [V.ref l]))) := ((wo_mono sa).trans wab).trans ((wo_mono sbc).trans (wo_mono scd))
      have t1d := ((wab.trans (wo_mono sbc)).trans (wo_mono scd)) _ _ (tup_wo la.M.hp ht1)
      have ld' : upd (upd Hb l (.tup (zd.map V.str))) u2 (.tup [V.ref l]) l = some (.tup (zd.map V.str)) := scd _ _ upd_same
      have hu2d : upd (upd Hb l (.tup (zd.map V.str))) u2 (.tup [V.ref l]) u2 = some (.tup [V.ref l]) := upd_same
      generalize upd (upd Hb l (.tup (zd.map V.str))) u2 (.tup [V.ref l]) = Hd at ld w14b t1d ld' hu2d
      clear lb wab sbc scd hl hu2 la
      refine catX (wo_get t1d).1 hu2d (by rw [List.length_take]; show _ + 1 ≤ 1000; omega) fun x1 He se hx1 => ?_
      have le := ld.same se
      have lye := (w14b.trans (wo_mono se)) _ _ hyb4
      refine ⟨_, rfl, _, rfl, _, rfl, p, q, 2, rfl, le.M.hp, by decide, by decide, fun w5 Hf w50 w5n hpf kf => ⟨_, _, rfl, rfl, _, rfl, ?_⟩⟩
      obtain ⟨e5, rfl⟩ := Int.eq_ofNat_of_zero_le w50
      rw [show ((m : Nat) : Int) + ((e5 : Nat) : Int) = ((m + e5 : Nat) : Int) by omega]
      dsimp only [tNoPart]
      have lf := le.keep kf hpf
      refine slA_fromX (wo_get (wo_keep kf _ _ lye)).1 fun t3 Hg sg ht3 => ?_
      have weg : Same (wo p He) (wo p Hg) := (wo_keep kf).trans (wo_mono sg)
      refine catX (wo_get (weg _ _ (tup_wo le.M.hp hx1))).1 ht3 (by rw [List.length_append, List.length_take, List.length_drop]; show _ + 1 + _ ≤ 1000; omega) fun x2 Hh sh hx2 => ?_
      have lh := (lf.same sg).same sh
      have weh := weg.trans (wo_mono sh)
      have w14h := (w14b.trans (wo_mono se)).trans weh
      refine ⟨_, rfl, _, rfl, _, rfl, ?_⟩
      refine slA_to (wo_get (w14h _ _ hu4)).1 (by omega) fun t4 Hi si ht4 => ?_
      refine ⟨_, rfl, (by show 1 ≤ sizeLine; decide), fun u3 hu3 => ?_⟩
      have sij := sameUpd (o := .tup [V.ref x2]) (Same.refl Hi) hu3
      refine catX (sij _ _ ht4) upd_same (by rw [List.length_take]; show _ + 1 ≤ 1000; omega) fun x3 Hk sk hx3 => ?_
      have shk := (si.trans sij).trans sk
      refine ⟨_, rfl, _, rfl, _, _, rfl, rfl, _, rfl, ?_⟩
      rw [show ((j : Nat) : Int) + 1 = ((j + 1 : Nat) : Int) by omega]
      dsimp only [tNoPart]
      refine slA_from (shk _ _ (wo_get (w14h _ _ hu4)).1) (by omega) fun t5 Hl sl ht5 => ?_
      refine catX (sl _ _ hx3) ht5 (by rw [List.length_append, List.length_take, List.length_drop]; show _ + 1 + _ ≤ 1000; omega) fun x4 Hm sm hx4 => ?_
      have lm := ((lh.same shk).same sl).same sm
      have whm := wo_mono (p := p) ((shk.trans sl).trans sm)
      have w14m := w14h.trans whm
      have wdm : Same (wo p Hd) (wo p Hm) := ((wo_mono se).trans weh).trans whm
      have dx2 : Ds .tup (wo p Hm) (.ref x2) (spliceY y m e5 zd) := ⟨x2, _, rfl, whm _ _ (tup_wo lh.M.hp hx2), pr_app (pr_app (pr_take (pr_imp pds4 fun _ _ q => q.keep w14m) m) (.cons ⟨l, rfl, wdm _ _ (tup_wo ld.M.hp ld')⟩ .nil)) (pr_drop (pr_imp pds4 fun _ _ q => q.keep w14m) _)⟩
      refine ⟨x4, _, _, _, zs.take j ++ [spliceY y m e5 zd] ++ zs.drop (j + 1), rfl, ⟨lm.M, lm.kd, ⟨x4, _, rfl, tup_wo lm.M.hp hx4, pr_app (pr_app (pr_take (pr_imp pu4 fun _ _ q => q.keep w14m) j) (.cons dx2 .nil)) (pr_drop (pr_imp pu4 fun _ _ q => q.keep w14m) _)⟩, lm.yo, lm.ye⟩, gz.gw.splice hy (by omega) md⟩
    · exact ⟨t, _, _, _, zs, rfl, l12, gz5⟩
  clear l10
  rintro σ H11 ⟨t, v8, v9, v10, zs, rfl, l11, gz⟩
  refine ⟨fun σ H => ∃ f, σ = Sg a p b kp c (some (.ref t)) (some (.ref o)) (some (.ref e)) v8 v9 v10 (some (.ref f)) none none none none none none none none none none none ∧ L7 CK H p q b c kp f o e ks ps (hs ++ zs) ys hs, ?_, ?_⟩
  · refine ⟨_, rfl, _, rfl, catY (l11.ye.keep wo_same) (l11.yt.keep wo_same) (by have := ge.1; have := gz.1; omega) fun f H12 s12 yf => ?_⟩
    have l12 := l11.same s12
    exact ⟨f, rfl, l12.M, l12.kd, yf.wo l12.M.hp, l12.yo, l12.ye⟩
  clear l11
  rintro σ H12 ⟨f, rfl, l12⟩
  have gw : GW 24 5 ks ps (hs ++ zs) := (ge.up (by decide) (by decide)).cat gz
  generalize hs ++ zs = ws at gw l12
  have gy5 : GW 16 5 ks ps ys := gy.up (by decide) (by decide)
  have fy := gy5.few (by decide) (by decide) gk lab
  have fw := gw.few (by decide) (by decide) gk lab
  have dy := gy5.due (by decide) (by decide) gk lab
  have dw := gw.due (by decide) (by decide) gk lab
  refine ⟨fun σ H => ∃ h1 h2, σ = Sg a p b kp c (some (.ref t)) (some (.ref o)) (some (.ref e)) v8 v9 v10 (some (.ref f)) (some (.ref h1)) (some (.ref h2)) none none none none none none none none none ∧ LQ C CK H p q b c kp o f h1 h2 ks ps ys ws, ?_, ?_⟩
  · refine ⟨_, rfl, _, rfl, mk_hist (l12.kd.keep wo_same) gk.kb ((l12.yo.keep wo_same).years (.inr rfl) fy) dy fun h1 H13 _ s13 hat1 => ?_⟩
    have l13 := l12.same s13
    refine ⟨_, rfl, _, rfl, mk_hist (l13.kd.keep wo_same) gk.kb ((l13.yt.keep wo_same).years (.inr rfl) fw) dw fun h2 H14 _ s14 hat2 => ⟨_, _, rfl, ?_⟩⟩
    have l14 := l13.same s14
    exact ⟨h1, h2, rfl, l14.M, l14.kd, l14.yo, l14.yt, (hat1.keep s14).wo l14.M.hp, hat2.wo l14.M.hp⟩
  clear l12 ge gy gz lyz
  generalize hv5 : some (V.ref t) = v5
  generalize hv7 : some (V.ref e) = v7
  clear hv5 hv7
  rintro σ H14 ⟨h1, h2, rfl, l14⟩
  obtain ⟨n1, n2⟩ := (⟨gy5.1, gw.1⟩ : ys.length ≤ 16 ∧ ws.length ≤ 24)
  have oy := fy.ok
  have ow := fw.ok
  refine ⟨fun σ H => σ = Sg a p b kp c v5 (some (.ref o)) v7 v8 v9 v10 (some (.ref f)) (some (.ref h1)) (some (.ref h2)) none none none none none none none none none ∧ LQ C CK H p q b c kp o f h1 h2 ks ps ys ws, ?_, ?_⟩
  · refine ⟨_, rfl, _, rfl, h1, o, ks, ys, rfl, l14.a1.keep wo_same, l14.yo.keep wo_same, gk.kb, oy, by omega, fun H15 s15 => ⟨_, rfl, iteF ?_⟩⟩
    have l15 := l14.same s15
    refine ⟨_, rfl, _, rfl, h2, f, ks, ws, rfl, l15.a2.keep wo_same, l15.yf.keep wo_same, gk.kb, ow, by omega, fun H16 s16 => ⟨_, rfl, iteF ?_⟩⟩
    exact ⟨rfl, l15.same s16⟩
  clear l14
  rintro σ H16 ⟨rfl, l16⟩
  refine ⟨fun σ H => ∃ v14 v15, σ = Sg a p b kp c v5 (some (.ref o)) v7 v8 v9 v10 (some (.ref f)) (some (.ref h1)) (some (.ref h2)) v14 v15 none none none none none none none ∧ LQ C CK H p q b c kp o f h1 h2 ks ps ys ws, ?_, ?_⟩
  · obtain ⟨xs, hx, px⟩ := (l16.yo.keep wo_same).cut
    obtain ⟨us, hu, pu⟩ := (l16.yf.keep wo_same).cut
    have lx := Paired.length px
    have lu := Paired.length pu
    refine ⟨_, rfl, o, xs, rfl, .inr (SqT.of hx), _, rfl, f, us, rfl, .inr (SqT.of hu), _, _, rfl, ?_⟩
    refine ⟨_, _, rfl, rfl, _, rfl, ?_, ?_, ?_⟩
    · split <;> omega
    · split <;> omega
    refine for_range (fun i σ H => ∃ v14 v15, σ = Sg a p b kp c v5 (some (.ref o)) v7 v8 v9 v10 (some (.ref f)) (some (.ref h1)) (some (.ref h2)) v14 v15 none none none none none none none ∧ LQ C CK H p q b c kp o f h1 h2 ks ps ys ws) ⟨_, _, rfl, l16⟩ ?_ ?_
    · rintro i σ H17 hi ⟨v14, v15, rfl, l17⟩
      have hi : i ≤ 1000 := by
        revert hi
        split <;> intro hi <;> omega
      rw [Int.zero_add]
      refine ⟨_, rfl, _, rfl, _, rfl, o, f, i, ys, ws, rfl, l17.yo.keep wo_same, l17.yf.keep wo_same, oy, ow, fun H18 s18 => ?_⟩
      have l18 := l17.same s18
      obtain ⟨d1, g1, _, _, b1, _, _, b4, _, _⟩ := (l18.a1.keep wo_same).ob
      obtain ⟨d2, g2, _, _, c1, _, _, c4, _, _⟩ := (l18.a2.keep wo_same).ob
      refine ⟨_, rfl, h1, d1, g1, rfl, b1, b4 _ (by decide +kernel) (by decide +kernel), _, rfl, _, rfl, h1, h2, .int (i : Nat), "int", ks, ks, ys, ws, rfl, l18.a1.keep wo_same, l18.a2.keep wo_same, gk.ok, gk.ok, oy, ow, by omega, by omega, .int _, .inr ⟨rfl, ?_⟩⟩
      rw [whole_in (by omega)]
      intro H19 s19
      refine ⟨.bl _, 0, .bool _, rfl, .bl _, by omega, _, rfl, .bl _, 0, .bool _, rfl, .bl _, by omega, rfl, _, rfl, ?_⟩
      rw [decide_eq_true rfl]
      refine iteF ?_
      refine ⟨_, rfl, h2, d2, g2, rfl, s19 _ _ c1, c4 _ (by decide +kernel) (by decide +kernel), _, rfl, _, rfl, h2, h1, .int (i : Nat), "int", ks, ks, ws, ys, rfl, (l18.a2.keep wo_same).keep s19, (l18.a1.keep wo_same).keep s19, gk.ok, gk.ok, ow, oy, by omega, by omega, .int _, .inr ⟨rfl, ?_⟩⟩
      rw [whole_in (by omega)]
      intro H20 s20
      rw [agreeB_comm]
      refine ⟨.bl _, 0, .bool _, rfl, .bl _, by omega, _, rfl, .bl _, 0, .bool _, rfl, .bl _, by omega, rfl, _, rfl, ?_⟩
      rw [decide_eq_true rfl]
      refine iteF ?_
      exact ⟨_, _, rfl, l18.same (s19.trans s20)⟩
    · rintro σ H17 ⟨v14, v15, rfl, l17⟩
      exact ⟨_, _, rfl, l17⟩
  clear l16
  rintro σ H17 ⟨v14, v15, rfl, l17⟩
  have fyw : FewY (ys ++ ws) := (gy5.cat gw).few (by decide) (by decide) gk lab
  have fwy : FewY (ws ++ ys) := (gw.cat gy5).few (by decide) (by decide) gk lab
  refine ⟨fun σ H => σ = Sg a p b kp c v5 (some (.ref o)) v7 v8 v9 v10 (some (.ref f)) (some (.ref h1)) (some (.ref h2)) v14 v15 none none none none none none none ∧ LQ C CK H p q b c kp o f h1 h2 ks ps ys ws, ?_, ?_⟩
  · obtain ⟨d1, g1, _, _, b1, _, _, b4, _, _⟩ := (l17.a1.keep wo_same).ob
    obtain ⟨d2, g2, _, _, c1, _, _, c4, _, _⟩ := (l17.a2.keep wo_same).ob
    refine ⟨_, rfl, h1, d1, g1, rfl, b1, b4 _ (by decide +kernel) (by decide +kernel), _, rfl, _, _, rfl, rfl, ⟨by decide, by decide, by decide⟩, h1, h2, _, "int", ks, ks, ys, ws, rfl, l17.a1.keep wo_same, l17.a2.keep wo_same, gk.ok, gk.ok, oy, ow, by omega, by omega, .int _, .inr ⟨rfl, ?_⟩⟩
    rw [show wholeN (.int ((10 : Int) ^ ((6 : Int)).toNat)) 1000000 = some 1000000 by decide +kernel]
    intro H18 s18
    have ab : agreeB 1000000 ys ws = false := decide_eq_false fun z => by have := z.1; omega
    rw [ab]
    refine ⟨_, _, rfl, rfl, _, rfl, iteF ?_⟩
    have l18 := l17.same s18
    refine ⟨_, rfl, h1, d1, g1, rfl, s18 _ _ b1, b4 _ (by decide +kernel) (by decide +kernel), _, rfl, h1, h2, ks, ks, ys, ws, rfl, l18.a1.keep wo_same, l18.a2.keep wo_same, gk.kb, gk.ok, gk.ok, fyw, .inl ⟨rfl, fun qj H19 _ s19 hj => ?_⟩⟩
    obtain ⟨dj, gj, _, yj, j1, _, j3, _, _, j6⟩ := hj.ob
    have l19 := l18.same s19
    refine ⟨qj, C, dj, gj, _, rfl, j1, A.HX.cl, A.HX.nY, j3, ?_⟩
    refine ⟨_, rfl, _, rfl, catY (l19.yo.keep wo_same) (l19.yf.keep wo_same) (by omega) fun x H20 s20 yx => ?_⟩
    refine ⟨_, _, (j6.keep s20).dp, yx.dp, shaped_dYs fyw.ok, shaped_dYs fyw.ok, _, rfl, ?_⟩
    rw [eqv_dYs, decide_eq_true rfl]
    refine iteF ?_
    have l20 := l19.same s20
    refine ⟨_, rfl, h2, d2, g2, rfl, s20 _ _ (s19 _ _ (s18 _ _ c1)), c4 _ (by decide +kernel) (by decide +kernel), _, rfl, h2, h1, ks, ks, ws, ys, rfl, l20.a2.keep wo_same, l20.a1.keep wo_same, gk.kb, gk.ok, gk.ok, fwy, .inl ⟨rfl, fun qk H21 _ s21 hk => ?_⟩⟩
    obtain ⟨dk, gk', _, yk, k1, _, k3, _, _, k6⟩ := hk.ob
    have l21 := l20.same s21
    refine ⟨qk, C, dk, gk', _, rfl, k1, A.HX.cl, A.HX.nY, k3, ?_⟩
    refine ⟨_, rfl, _, rfl, catY (l21.yf.keep wo_same) (l21.yo.keep wo_same) (by omega) fun x2 H22 s22 yx2 => ?_⟩
    refine ⟨_, _, (k6.keep s22).dp, yx2.dp, shaped_dYs fwy.ok, shaped_dYs fwy.ok, _, rfl, ?_⟩
    rw [eqv_dYs, decide_eq_true rfl]
    exact iteF ⟨rfl, l21.same s22⟩
  clear l17
  rintro σ H22 ⟨rfl, l22⟩
  refine ⟨fun σ H => ∃ dl xs ds, σ = Sg a p b kp c v5 (some (.ref o)) v7 v8 v9 v10 (some (.ref f)) (some (.ref h1)) (some (.ref h2)) v14 v15 (some (.ref dl)) none none none none none none ∧ LQ C CK H p q b c kp o f h1 h2 ks ps ys ws ∧ wo p H dl = some (.lst xs) ∧ Paired (Ss .lst (wo p H)) xs ds ∧ ds.length ≤ 3 ∧ ∀ d ∈ ds, Made ks ps d, ?_, ?_⟩
  · refine ⟨_, rfl, p, q, 4, rfl, l22.M.hp, by decide, by decide, fun w6 H23 w60 w64 hp23 k23 => ?_⟩
    have l23 := l22.keep k23 hp23
    refine ⟨w6, rfl, by omega, by omega, fun L hL => ?_⟩
    have Lp := l23.M.hp.ap hL
    refine lc_range (fun j Hj => Keep H23 Hj p ∧ HandAt Hj p q ∧ ∃ acc dj, Hj L = some (.lst acc) ∧ Paired (Ss .lst (hid L p Hj)) acc dj ∧ dj.length = j ∧ ∀ d ∈ dj, Made ks ps d) ?_ ?_ ?_
    · exact ⟨keepUpd Keep.refl hL, l23.M.hp.upd Lp (l23.M.hp.aq hL), [], [], upd_same, .nil, rfl, fun d h => nomatch h⟩
    · rintro j Hj hj ⟨kj, hpj, acc, dj, hacc, pa, al, ma⟩
      refine ⟨rfl, ?_⟩
      unfold tYes
      dsimp only
      rw [if_pos rfl]
      refine ⟨_, rfl, _, rfl, _, rfl, p, q, b, c, ks, ps, rfl, l23.M.keep kj hpj, fun d zs H9 fr md => ?_⟩
      have dL : d ≠ L := fun e => by have z := fr.b0; rw [e, hacc] at z; cases z
      have la := Paired.length pa
      exact ⟨acc, fr.kp L _ hacc Lp, small1000 (by omega), keepUpd (kj.trans fr.kp) hL, fr.hp.upd Lp (l23.M.hp.aq hL), acc ++ [.ref d], dj ++ [zs], upd_same, pr_app (pr_imp pa fun _ _ h => (h.keep (hid_keep fr.kp)).keep hid_b) (.cons ⟨d, rfl, hid_b _ _ (hid_at fr.hb dL fr.bp)⟩ .nil), by simp [al], fun z hz => (List.mem_append.mp hz).elim (ma z) fun h => by rw [List.mem_singleton.mp h]; exact md⟩
    · rintro Hj ⟨kj, hpj, acc, dj, hacc, pa, al, ma⟩
      exact ⟨L, acc, dj, rfl, l23.keep kj hpj, wo_at hacc Lp, pr_imp pa fun _ _ h => h.keep hid_wo, by omega, ma⟩
  clear l22
  rintro σ H23 ⟨dl, xs, ds, rfl, l23, hdl, pds, nds, mds⟩
  have dn : ∀ d ∈ ds, deedWord ks (some (d.map V.str)) = none := fun d hd => (mds d hd).due gk lab
  have fd : ∀ d ∈ ds, d.length ≤ 100 ∧ ∀ z ∈ d, Fine z := fun d hd => by
    obtain ⟨_, h2, h3⟩ := (mds d hd).all gk lab
    exact ⟨by omega, fun z hz => (h3 z hz).fine⟩
  have okd : ∀ d ∈ ds, ∀ z ∈ d, PyData.strOk z = true := fun d hd z hz => ((fd d hd).2 z hz).1
  obtain ⟨d1, g1, _, _, b1, _, _, b4, _, _⟩ := (l23.a1.keep wo_same).ob
  refine ⟨_, rfl, h1, d1, g1, rfl, b1, b4 _ (by decide +kernel) (by decide +kernel), then_call (l23.a1.keep wo_same) gk.kb fy (rest := []) (ds := []) .nil (by decide) (fun d h => nomatch h) fun la H24 s24 hla => ?_⟩
  refine ⟨fun σ H => ∃ lh, σ = Sg a p b kp c v5 (some (.ref o)) v7 v8 v9 v10 (some (.ref f)) (some (.ref h1)) (some (.ref h2)) v14 v15 (some (.ref dl)) (some (.ref lh)) none none none none none ∧ LQ C CK H p q b c kp o f h1 h2 ks ps ys ws ∧ wo p H dl = some (.lst xs) ∧ Paired (Ss .lst (wo p H)) xs ds ∧ HistAt C CK (wo p H) lh ks (ys ++ [ds.take 2]), ?_, ?_⟩
  · refine ⟨_, rfl, Nat.zero_le _, fun u hu => ?_⟩
    have sU := sameUpd (o := .lst []) (Same.refl H24) hu
    have s25 := s24.trans sU
    have l25 := l23.same s25
    have dlx := s25 _ _ (wo_get hdl).1
    have hul : upd H24 u (.lst []) u = some (.lst []) := upd_same
    have hla2 := hla.keep sU
    have b25 := s25 _ _ b1
    have pds5 : Paired (Ss .lst (upd H24 u (.lst []))) xs ds := pr_imp pds fun _ _ z => z.keep (wo_same.trans s25)
    have wdl := wo_mono s25 _ _ hdl
    have wpd : Paired (Ss .lst (wo p (upd H24 u (.lst [])))) xs ds := pr_imp pds fun _ _ z => z.keep (wo_mono s25)
    generalize upd H24 u (.lst []) = H25 at l25 dlx hul hla2 b25 pds5 wdl wpd
    refine ne_nilD (dp_strss dlx pds5) (shaped_strss okd) hul ⟨_, rfl, ?_⟩
    clear pds hdl
    cases pds5 with
    | nil => exact iteF ⟨la, rfl, l25, wdl, .nil, hla2.wo l25.M.hp⟩
    | cons e1 p2 =>
      rename_i x0 d0 xs2 ds2
      refine iteT ?_
      have f0 := fd d0 (.head _)
      cases p2 with
      | nil =>
        refine ⟨_, rfl, dl, [x0], rfl, .inl (SqL.of dlx), rfl, _, rfl, iteT ?_⟩
        refine ⟨_, rfl, h1, d1, g1, rfl, b25, b4 _ (by decide +kernel) (by decide +kernel), _, rfl, dl, [x0], 0, x0, rfl, rfl, SqL.of dlx, at0 _ _, then_call (l25.a1.keep wo_same) gk.kb fy (rest := [x0]) (ds := [d0]) (.cons (deed_lst e1 f0.1 f0.2) .nil) (by show 1 ≤ 100; decide) dn fun lb H26 s26 hlb => ?_⟩
        have l26 := l25.same s26
        exact ⟨lb, rfl, l26, wo_mono s26 _ _ wdl, pr_imp wpd fun _ _ z => z.keep (wo_mono s26), hlb.wo l26.M.hp⟩
      | cons e2 p3 =>
        rename_i x1 d1' xs3 ds3
        have f1 := fd d1' (.tail _ (.head _))
        obtain ⟨xa, rfl, hxa⟩ := e2
        refine ⟨_, rfl, dl, _, rfl, .inl (SqL.of dlx), rfl, _, rfl, ite2 (fun z => ?_) (fun _ => ?_)⟩
        · have z := V.int.inj (of_decide_eq_true z)
          simp only [List.length_cons] at z
          omega
        · refine ⟨_, rfl, h1, d1, g1, rfl, b25, b4 _ (by decide +kernel) (by decide +kernel), _, rfl, dl, _, 0, x0, rfl, rfl, SqL.of dlx, at0 _ _, _, rfl, dl, _, 1, .ref xa, rfl, rfl, SqL.of dlx, at1 _ _ _, xa, _, rfl, .inl ⟨SqL.of hxa, fun l hl => ?_⟩⟩
          have sl := sameUpd (o := .tup (d1'.map V.str)) (Same.refl H25) hl
          have l26 := l25.same sl
          refine then_call (l26.a1.keep wo_same) gk.kb fy (rest := [x0, .ref l]) (ds := [d0, d1']) (.cons ((deed_lst e1 f0.1 f0.2).keep sl) (.cons (deed_tup ⟨l, rfl, upd_same⟩ f1.1 f1.2) .nil)) (by show 2 ≤ 100; decide) (fun d hd => ?_) fun lb H27 s27 hlb => ?_
          · rcases List.mem_cons.mp hd with e | e
            · rw [e]; exact dn d0 (.head _)
            · rw [List.mem_singleton.mp e]; exact dn d1' (.tail _ (.head _))
          have l27 := l26.same s27
          have s57 := sl.trans s27
          exact ⟨lb, rfl, l27, wo_mono s57 _ _ wdl, pr_imp wpd fun _ _ z => z.keep (wo_mono s57), hlb.wo l27.M.hp⟩
  clear l23 hdl pds hla s24 b1 b4
  rintro σ H26 ⟨lh, rfl, l26, hdl, pds, hlh⟩
  refine ⟨fun σ H => σ = Sg a p b kp c v5 (some (.ref o)) v7 v8 v9 v10 (some (.ref f)) (some (.ref h1)) (some (.ref h2)) v14 v15 (some (.ref dl)) (some (.ref lh)) none none none none none ∧ LQ C CK H p q b c kp o f h1 h2 ks ps ys ws, ?_, ?_⟩
  · obtain ⟨dl', gl', kpl, yl, j1, j2, j3, _, j5, j6⟩ := (hlh.keep wo_same).ob
    have nt : (ds.take 2).length ≤ 2 := by rw [List.length_take]; omega
    have oyd : OkY (ys ++ [ds.take 2]) := fun y hy => (List.mem_append.mp hy).elim (oy y) fun h d hd z hz => by
      rw [List.mem_singleton.mp h] at hd
      exact okd d (List.mem_of_mem_take hd) z hz
    refine ⟨_, rfl, lh, C, dl', gl', _, rfl, j1, A.HX.cl, A.HX.nY, j3, ?_⟩
    refine ⟨_, rfl, _, rfl, _, rfl, dl, xs, rfl, SqL.of (wo_get hdl).1, fun l hl => ⟨(by show 1 ≤ sizeLine; decide), fun u hu => ?_⟩⟩
    rw [show cutV xs none (some 2) = xs.take 2 from cut_takeA xs 2] at hu ⊢
    have sl := sameUpd (o := .lst (xs.take 2)) (Same.refl H26) hl
    have su := sameUpd (o := .lst [V.ref l]) (Same.refl (upd H26 l (.lst (xs.take 2)))) hu
    have s27 := sl.trans su
    refine ⟨u, [.ref l], [ds.take 2], rfl, upd_same, .cons ⟨l, xs.take 2, rfl, su _ _ upd_same, pr_take (pr_imp pds fun _ _ z => .inl (z.keep (wo_same.trans s27))) 2⟩ .nil, (by show 1 ≤ 1000; decide), (fun y hy => by rw [List.mem_singleton.mp hy]; omega), fun t4 H29 _ s29 yt => ?_⟩
    have l29 := (l26.same s27).same s29
    refine catY (l29.yo.keep wo_same) yt (by show _ + 1 ≤ 1000; omega) fun x H30 s30 yx => ?_
    have s60 := (s27.trans s29).trans s30
    have l30 := l29.same s30
    refine ⟨_, _, (j6.keep s60).dp, yx.dp, shaped_dYs oyd, shaped_dYs oyd, _, rfl, ?_⟩
    rw [eqv_dYs, decide_eq_true rfl]
    refine iteF ?_
    obtain ⟨kdx, kfs, _, _, _, _, i1, _⟩ := (j5.keep s60).get (K := K)
    obtain ⟨kdx', kfs', _, _, _, _, i1', _⟩ := (l30.kd.keep wo_same).get (K := K)
    refine ⟨_, rfl, lh, C, dl', gl', _, rfl, s60 _ _ j1, A.HX.cl, A.HX.nK, j2, _, rfl, kpl, kdx, kfs, kp, kdx', kfs', rfl, i1, rfl, i1', kpl, _, ks, rfl, j5.keep s60, gk.ok, .inl ⟨kp, ks, rfl, l30.kd.keep wo_same, gk.ok, _, rfl, _, rfl, ?_⟩⟩
    rw [decide_eq_true rfl]
    exact iteF ⟨rfl, l30⟩
  clear l26 hdl pds hlh
  generalize hv16 : some (V.ref dl) = v16
  generalize hv17 : some (V.ref lh) = v17
  clear hv16 hv17 dn fd okd nds mds
  rintro σ H27 ⟨rfl, l27⟩
  -- told
  refine ⟨fun σ H => ∃ tl us rs, σ = Sg a p b kp c v5 (some (.ref o)) v7 v8 v9 v10 (some (.ref f)) (some (.ref h1)) (some (.ref h2)) v14 v15 v16 v17 (some (.ref tl)) none none none none ∧ LQ C CK H p q b c kp o f h1 h2 ks ps ys ws ∧ wo p H tl = some (.lst us) ∧ Paired (DeedIs (wo p H)) us rs ∧ (us.length = 1 ∨ us.length = 2), ?_, ?_⟩
  · refine ⟨_, rfl, p, q, 2, rfl, l27.M.hp, by decide, by decide, fun w7 H28 w70 w72 hp28 k28 => ⟨_, _, rfl, rfl, 1 + w7, rfl, by omega, by omega, fun L hL => ?_⟩⟩
    have l28 := l27.keep k28 hp28
    have Lp := l28.M.hp.ap hL
    refine lc_range (fun j Hj => Keep H28 Hj p ∧ HandAt Hj p q ∧ ∃ acc rj, Hj L = some (.lst acc) ∧ Paired (DeedIs (hid L p Hj)) acc rj ∧ acc.length = j) ?_ ?_ ?_
    · exact ⟨keepUpd Keep.refl hL, l28.M.hp.upd Lp (l28.M.hp.aq hL), [], [], upd_same, .nil, rfl⟩
    · rintro j Hj hj ⟨kj, hpj, acc, rj, hacc, pa, al⟩
      refine ⟨rfl, ?_⟩
      unfold tYes
      dsimp only
      rw [if_pos rfl]
      refine ⟨_, rfl, _, rfl, _, rfl, p, q, b, c, ks, ps, rfl, l28.M.keep kj hpj, fun x d H9 hd hp9 k9 => ?_⟩
      obtain ⟨op, hop⟩ := hpj.at_
      obtain ⟨r, hr⟩ := (hd.keep (nw_hid (b := L) hacc hop)).deed
      exact ⟨acc, k9 L _ hacc Lp, small1000 (by omega), keepUpd (kj.trans k9) hL, hp9.upd Lp (l28.M.hp.aq hL), acc ++ [x], rj ++ [r], upd_same, pr_app (pr_imp pa fun _ _ h => (h.keep (hid_keep k9)).keep hid_b) (.cons (hr.keep hid_b) .nil), by simp [al]⟩
    · rintro Hj ⟨kj, hpj, acc, rj, hacc, pa, al⟩
      exact ⟨L, acc, rj, rfl, l28.keep kj hpj, wo_at hacc Lp, pr_imp pa fun _ _ h => h.keep hid_wo, by omega⟩
  clear l27
  rintro σ H28 ⟨tl, us, rs, rfl, l28, htl, pds, nu⟩
  have lr := Paired.length pds
  -- faults
  refine ⟨fun σ H => ∃ fl, σ = Sg a p b kp c v5 (some (.ref o)) v7 v8 v9 v10 (some (.ref f)) (some (.ref h1)) (some (.ref h2)) v14 v15 v16 v17 (some (.ref tl)) (some (.ref fl)) none none none ∧ LQ C CK H p q b c kp o f h1 h2 ks ps ys ws ∧ wo p H tl = some (.lst us) ∧ Paired (DeedIs (wo p H)) us rs ∧ wo p H fl = some (.lst (rs.map fun r => wordV (deedWord ks r))), ?_, ?_⟩
  · refine ⟨_, rfl, tl, rfl, lc_pure (g := gName 24) (fun j v H' => ∀ r, rs[j]? = some r → v = wordV (deedWord ks r)) (fun j v H' H'' q s r e => q r e) (IsSeq.lst (wo_get htl).1) (Same.refl _) (by omega) ?_ ?_ fun x σ H Q Q' q z => q _ _ z⟩
    · rintro D i x H3 k' hi hD s3 ⟨acc, hacc⟩ kk
      obtain ⟨r, hr, dx⟩ := pr_get pds hi
      refine ⟨rfl, ?_⟩
      refine ⟨_, rfl, _, rfl, b, ks, x, r, rfl, l28.M.gl.keep (wo_same.trans s3), gk, dx.keep (wo_same.trans s3), fun H' s => kk _ _ s fun r' e => ?_⟩
      rw [hr] at e
      cases e
      rfl
    · intro D zs H3 hD s3 hd3 lz g3
      have l3 := l28.same s3
      have ez : zs = rs.map fun r => wordV (deedWord ks r) := by
        refine List.ext_getElem? fun j => ?_
        rw [List.getElem?_map]
        cases e : zs[j]? with
        | none =>
          have hl := List.getElem?_eq_none_iff.mp e
          rw [List.getElem?_eq_none (by omega)]
          rfl
        | some v =>
          have lt := (List.getElem?_eq_some_iff.mp e).1
          have er : rs[j]? = some (rs[j]'(by omega)) := List.getElem?_eq_getElem (by omega)
          rw [er]
          exact congrArg some (g3 j v e _ er)
      subst ez
      exact ⟨D, rfl, l3, wo_mono s3 _ _ htl, pr_imp pds fun _ _ z => z.keep (wo_mono s3), wo_at hd3 (l28.M.hp.ap hD)⟩
  clear l28 htl pds
  rintro σ H29 ⟨fl, rfl, l29, htl, pds, hfl⟩
  -- due
  refine ⟨fun σ H => ∃ du, σ = Sg a p b kp c v5 (some (.ref o)) v7 v8 v9 v10 (some (.ref f)) (some (.ref h1)) (some (.ref h2)) v14 (some (.ref du)) v16 v17 (some (.ref tl)) (some (.ref fl)) none none none ∧ LQ C CK H p q b c kp o f h1 h2 ks ps ys ws ∧ wo p H tl = some (.lst us) ∧ Paired (DeedIs (wo p H)) us rs ∧ wo p H fl = some (.lst (rs.map fun r => wordV (deedWord ks r))) ∧ wo p H du = some (.lst ((dueIx ks 0 rs).map fun n => V.int (n : Nat))), ?_, ?_⟩
  · refine ⟨_, rfl, fl, _, rfl, lc_en (IsSeq.lst (wo_get hfl).1) (Same.refl _) fun D hD => ⟨fun i H => Same H29 H ∧ H D = some (.lst ((dueIx ks 0 (rs.take i)).map fun n => V.int (n : Nat))), ⟨sameUpd (Same.refl _) hD, upd_same⟩, fun i H p => p.1, ?_, ?_⟩⟩
    · rintro i x H3 T hi ⟨s, hd⟩ hT
      rw [List.getElem?_map] at hi
      obtain ⟨r, hr, rfl⟩ := Option.map_eq_some_iff.mp hi
      have lt : i < rs.length := (List.getElem?_eq_some_iff.mp hr).1
      have sT := sameUpd (o := .tup [V.int (i : Nat), wordV (deedWord ks r)]) (Same.refl H3) hT
      have st : dueIx ks 0 (rs.take (i + 1)) = dueIx ks 0 (rs.take i) ++ dueIx ks i [r] := by
        rw [take_succ_of hr, dueIx_app, List.length_take, Nat.min_eq_left (by omega), Nat.zero_add]
      refine ⟨T, _, rfl, SqT.of upd_same, rfl, _, _, rfl, _, _, rfl, rfl, rfl, ?_⟩
      refine ⟨_, rfl, rfl, _, rfl, ?_⟩
      cases e : deedWord ks r with
      | none =>
        rw [e] at sT
        refine iteF ⟨s.trans sT, ?_⟩
        rw [st, show dueIx ks i [r] = [] from if_pos e, List.append_nil]
        exact sT _ _ hd
      | some w' =>
        rw [e] at sT
        have ln : (dueIx ks 0 (rs.take i)).length ≤ 2 := Nat.le_trans (dueIx_le _ _) (by rw [List.length_take]; omega)
        refine iteT ⟨_, rfl, _, sT _ _ hd, small1000 (by rw [List.length_map]; omega), woD hD s sT, ?_⟩
        rw [upd_same, st, show dueIx ks i [r] = [i] from if_neg (by rw [e]; simp), List.map_append]
        rfl
    · rintro H3 ⟨s, hd⟩
      rw [List.length_map, List.take_length] at hd
      have l3 := l29.same s
      exact ⟨D, rfl, l3, wo_mono s _ _ htl, pr_imp pds fun _ _ z => z.keep (wo_mono s), wo_mono s _ _ hfl, wo_at hd (l29.M.hp.ap hD)⟩
  clear l29 htl pds hfl
  rintro σ H30 ⟨du, rfl, l30, htl, pds, hfl, hdu⟩
  have nd2 : (dueIx ks 0 rs).length ≤ 2 := Nat.le_trans (dueIx_le _ _) (by omega)
  -- refused
  refine ⟨fun σ H => σ = Sg a p b kp c v5 (some (.ref o)) v7 v8 v9 v10 (some (.ref f)) (some (.ref h1)) (some (.ref h2)) v14 (some (.ref du)) v16 v17 (some (.ref tl)) (some (.ref fl)) none none none ∧ LQ C CK H p q b c kp o f h1 h2 ks ps ys ws ∧ wo p H tl = some (.lst us) ∧ Paired (DeedIs (wo p H)) us rs ∧ wo p H du = some (.lst ((dueIx ks 0 rs).map fun n => V.int (n : Nat))), ?_, ?_⟩
  · refine ⟨_, rfl, Nat.zero_le _, fun u hu => ?_⟩
    have sU := sameUpd (o := .lst []) (Same.refl H30) hu
    have l31 := l30.same sU
    have hul : upd H30 u (.lst []) u = some (.lst []) := upd_same
    have htl1 := wo_mono sU _ _ htl
    have pds1 : Paired (DeedIs (wo p (upd H30 u (.lst [])))) us rs := pr_imp pds fun _ _ z => z.keep (wo_mono sU)
    have hfl1 := wo_mono sU _ _ hfl
    have hdu1 := wo_mono sU _ _ hdu
    generalize upd H30 u (.lst []) = H31 at l31 hul htl1 pds1 hfl1 hdu1
    refine ne_nilD (.lst (SqL.of (wo_get hdu1).1) (dp_ints _)) (shaped_ints _) hul ⟨_, rfl, ?_⟩
    cases ej : dueIx ks 0 rs with
    | nil =>
      rw [ej] at hdu1
      exact iteF (iteF ⟨rfl, l31, htl1, pds1, hdu1⟩)
    | cons j js =>
      rw [ej] at hdu1
      refine iteT ?_
      obtain ⟨ww, sc, _, xr, hxr, exr⟩ := due_cons 0 rs ej
      rw [Nat.sub_zero] at hxr
      refine ⟨_, rfl, _, rfl, h1, tl, us, ks, ys, rs, rfl, l31.a1.keep wo_same, gk.kb, fy, (wo_get htl1).1, nu, pr_imp pds1 fun _ _ z => z.keep wo_same, ?_⟩
      rw [show yearWord ks (some rs) = some (j, ww) from sc]
      intro t32 H32 s32 ht32
      have l32 := l31.same s32
      obtain ⟨xs6, hx6, px6⟩ := (l31.yo.keep wo_same).cut
      have l6 := Paired.length px6
      have hdu2 := s32 _ _ (wo_get hdu1).1
      have hfl2 := s32 _ _ (wo_get hfl1).1
      have aw : atI (rs.map fun r => wordV (deedWord ks r)) ((j : Nat) : Int) = some (.str ww) := atN (by
        rw [List.getElem?_map, hxr]
        show some (wordV (deedWord ks xr)) = _
        rw [exr]
        rfl)
      refine ⟨_, rfl, o, xs6, rfl, .inr (SqT.of (s32 _ _ hx6)), _, rfl, du, _, 0, .int (j : Nat), rfl, rfl, SqL.of hdu2, at0 _ _, _, rfl, _, rfl, du, _, 0, .int (j : Nat), rfl, rfl, SqL.of hdu2, at0 _ _, fl, _, ((j : Nat) : Int), .str ww, rfl, rfl, SqL.of hfl2, aw, (by show 4 ≤ sizeLine; decide), fun u2 hu2 => ?_⟩
      have s33 := sameUpd (o := .lst [.str "refused", .int (xs6.length : Nat), .int (j : Nat), .str ww]) (Same.refl H32) hu2
      refine ⟨t32, u2, _, _, rfl, rfl, SqL.of (s33 _ _ ht32), SqL.of upd_same, .inr ⟨by rw [l6], fun z hz => ?_, _, rfl, iteF ⟨rfl, l32.same s33, ?_, ?_, ?_⟩⟩⟩
      · simp only [List.mem_cons, List.not_mem_nil, or_false] at hz
        rcases hz with rfl | rfl | rfl | rfl <;> exact .inl rfl
      · exact wo_mono (s32.trans s33) _ _ htl1
      · exact pr_imp pds1 fun _ _ z => z.keep (wo_mono (s32.trans s33))
      · exact wo_mono (s32.trans s33) _ _ hdu1
  clear l30 htl pds hfl hdu
  rintro σ H33 ⟨rfl, l33, htl, pds, hdu⟩
  -- not refused
  refine ⟨fun σ H => σ = Sg a p b kp c v5 (some (.ref o)) v7 v8 v9 v10 (some (.ref f)) (some (.ref h1)) (some (.ref h2)) v14 (some (.ref du)) v16 v17 (some (.ref tl)) (some (.ref fl)) none none none ∧ LQ C CK H p q b c kp o f h1 h2 ks ps ys ws, ?_, ?_⟩
  · refine ⟨_, rfl, Nat.zero_le _, fun u hu => ?_⟩
    have sU := sameUpd (o := .lst []) (Same.refl H33) hu
    have l34 := l33.same sU
    have hul : upd H33 u (.lst []) u = some (.lst []) := upd_same
    have htl1 := wo_mono sU _ _ htl
    have pds1 : Paired (DeedIs (wo p (upd H33 u (.lst [])))) us rs := pr_imp pds fun _ _ z => z.keep (wo_mono sU)
    have hdu1 := wo_mono sU _ _ hdu
    generalize upd H33 u (.lst []) = H34 at l34 hul htl1 pds1 hdu1
    refine eq_nilD (.lst (SqL.of (wo_get hdu1).1) (dp_ints _)) (shaped_ints _) hul ⟨_, rfl, ?_⟩
    cases ej : dueIx ks 0 rs with
    | cons j js => exact iteF (iteF ⟨rfl, l34⟩)
    | nil =>
      refine iteT ?_
      refine ⟨_, rfl, _, rfl, h1, tl, us, ks, ys, rs, rfl, l34.a1.keep wo_same, gk.kb, fy, (wo_get htl1).1, nu, pr_imp pds1 fun _ _ z => z.keep wo_same, ?_⟩
      rw [show yearWord ks (some rs) = none from due_nil 0 rs ej]
      intro es er x H35 s35 yx
      have l35 := l34.same s35
      rw [er] at pds1
      obtain ⟨sx, oks⟩ := sx_of (pr_imp pds1 fun _ _ z => z.keep (wo_same.trans s35))
      have les := Paired.length sx
      have oyd : OkY (ys ++ [es]) := fun y hy => (List.mem_append.mp hy).elim (oy y) fun h => by rw [List.mem_singleton.mp h]; exact oks
      refine ⟨_, rfl, _, rfl, (by show 1 ≤ sizeLine; decide), fun u2 hu2 => ?_⟩
      have s36 := sameUpd (o := .lst [V.ref tl]) (Same.refl H35) hu2
      refine ⟨u2, [.ref tl], [es], rfl, upd_same, .cons ⟨tl, us, rfl, s36 _ _ (s35 _ _ (wo_get htl1).1), pr_imp sx fun _ _ z => z.imp (fun q => q.keep s36) fun q => q.keep s36⟩ .nil, (by show 1 ≤ 1000; decide), (fun y hy => by rw [List.mem_singleton.mp hy]; omega), fun t4 H37 _ s37 yt => ?_⟩
      have l37 := (l35.same s36).same s37
      refine catY (l37.yo.keep wo_same) yt (by show _ + 1 ≤ 1000; omega) fun x2 H38 s38 yx2 => ?_
      refine ⟨_, _, (yx.keep ((s36.trans s37).trans s38)).dp, yx2.dp, shaped_dYs oyd, shaped_dYs oyd, _, rfl, ?_⟩
      rw [eqv_dYs, decide_eq_true rfl]
      exact iteF ⟨rfl, l37.same s38⟩
  clear l33 htl pds hdu
  generalize hv15 : some (V.ref du) = v15'
  generalize hv18 : some (V.ref tl) = v18
  generalize hv19 : some (V.ref fl) = v19
  clear hv15 hv18 hv19
  rintro σ H38 ⟨rfl, l38⟩
  -- other kinds
  refine ⟨fun σ H => ∃ kq ls, σ = Sg a p b kp c v5 (some (.ref o)) v7 v8 v9 v10 (some (.ref f)) (some (.ref h1)) (some (.ref h2)) v14 v15' v16 v17 v18 v19 (some (.ref kq)) none none ∧ LQ C CK H p q b c kp o f h1 h2 ks ps ys ws ∧ KindsAt CK (wo p H) kq (vv ls) ∧ GoodK ls ∧ ks ≠ ls, ?_, ?_⟩
  · obtain ⟨bx, hbx, itx⟩ := l38.M.gl
    have lx := itx.1
    have hb' := (wo_get hbx).1
    have hi6 := gk.hi
    refine ⟨_, rfl, b, bx, rfl, .inl (SqL.of hb'), _, _, rfl, rfl, _, rfl, ?_⟩
    refine ite2 (fun c1 => ?_) (fun c1 => ?_)
    · have c1 := of_decide_eq_true c1
      have k6 : ks.length < 6 := by omega
      have ez : cutS (Str.ofString "zzzzzzz") none (some 6) = Str.ofString "zzzzzz" := by decide +kernel
      refine ⟨_, rfl, _, rfl, _, rfl, (by decide +kernel), ?_⟩
      rw [ez]
      refine ⟨(by show 2 ≤ sizeLine; decide), fun t' ht' => ⟨(by show 1 ≤ sizeLine; decide), fun l hl => ?_⟩⟩
      have s1 := sameUpd (o := .tup [V.str (Str.ofString "zzzzzz"), V.int 0]) (Same.refl H38) ht'
      have s2 := sameUpd (o := .lst [V.ref t']) (Same.refl _) hl
      refine ⟨b, l, bx, [.ref t'], rfl, rfl, s2 _ _ (s1 _ _ hb'), upd_same, Nat.le_of_lt (small1000 (by show _ + 1 ≤ 1000; omega)), fun e' he' => ?_⟩
      have s3 := sameUpd (o := .lst (bx ++ [V.ref t'])) (Same.refl _) he'
      have s13 := (s1.trans s2).trans s3
      refine mk_kinds (gk.more k6 zk) ⟨_, upd_same, ItemsAt.add (itx.keep (wo_same.trans s13)) ⟨t', rfl, .inr (s3 _ _ (s2 _ _ upd_same))⟩⟩ fun kq H39 _ s39 kd => ?_
      have l39 := l38.same (s13.trans s39)
      exact ⟨kq, _, rfl, l39, kd.wo l39.M.hp, gk.more k6 zk, fun e => by
        have := congrArg List.length e
        rw [List.length_append] at this
        simp at this⟩
    · have c1 : ¬ ((bx.length : Nat) : Int) < 6 := fun z => c1 (decide_eq_true z)
      refine ⟨_, rfl, _, rfl, b, bx, rfl, SqL.of hb', fun u hu => ?_⟩
      rw [show cutV bx none (some 5) = bx.take 5 from cut_takeA bx 5]
      have s1 := sameUpd (o := .lst (bx.take 5)) (Same.refl H38) hu
      refine mk_kinds gk.five ⟨_, upd_same, (itx.keep (wo_same.trans s1)).take 5⟩ fun kq H39 _ s39 kd => ?_
      have l39 := l38.same (s1.trans s39)
      exact ⟨kq, _, rfl, l39, kd.wo l39.M.hp, gk.five, fun e => by
        have := congrArg List.length e
        rw [List.length_take] at this
        omega⟩
  clear l38
  rintro σ H39 ⟨kq, ls, rfl, l39, kdq, gq, nkl⟩
  have few0 : FewY [] := ⟨Nat.zero_le _, fun y hy => nomatch hy⟩
  have due0 : yearsDue ls (some (yR [])) = none := due_none few0 fun y hy => nomatch hy
  refine ⟨fun σ H => ∃ hs, σ = Sg a p b kp c v5 (some (.ref o)) v7 v8 v9 v10 (some (.ref f)) (some (.ref h1)) (some (.ref h2)) v14 v15' v16 v17 v18 v19 (some (.ref kq)) (some (.ref hs)) none ∧ LQ C CK H p q b c kp o f h1 h2 ks ps ys ws ∧ HistAt C CK (wo p H) hs ls [], ?_, ?_⟩
  · refine ⟨_, rfl, mk_hist (l := ed) (ys := []) (kdq.keep wo_same) gq.kb (.seq A.we.seq .nil (Nat.zero_le _)) due0 fun hs H40 _ s40 hat => ?_⟩
    have l40 := l39.same s40
    exact ⟨hs, rfl, l40, hat.wo l40.M.hp⟩
  clear l39 kdq
  rintro σ H40 ⟨hs, rfl, l40, hsa⟩
  -- an odd number
  refine ⟨fun σ H => ∃ y n, σ = Sg a p b kp c v5 (some (.ref o)) v7 v8 v9 v10 (some (.ref f)) (some (.ref h1)) (some (.ref h2)) v14 v15' v16 v17 v18 v19 (some (.ref kq)) (some (.ref hs)) (some y) ∧ LQ C CK H p q b c kp o f h1 h2 ks ps ys ws ∧ HistAt C CK (wo p H) hs ls [] ∧ Kd (wo p H) y n ∧ wholeN y 1000000 = none ∧ (flatV y = true ∨ ∃ c, y = .ref c), ?_, ?_⟩
  · refine ⟨_, rfl, 1, rfl, _, _, rfl, rfl, ⟨by decide, by decide, by decide⟩, _, _, rfl, rfl, (by show 1 ≤ sizeLine; decide), fun l hl => ⟨(by show 6 ≤ sizeLine; decide), fun r' hr' => ?_⟩⟩
    have s1 : Same H40 (upd H40 l (.lst [V.int 1])) := sameUpd (Same.refl _) hl
    have s2 := sameUpd (o := .lst [V.int (-1), V.int ((10 : Int) ^ ((6 : Int)).toNat + 1), V.bl true, V.non, V.str "1", V.ref l]) s1 hr'
    have l41 := l40.same s2
    have lr : l ≠ r' := ne_of_none upd_same hr'
    have e6 : ((10 : Int) ^ ((6 : Int)).toNat) = 1000000 := by decide
    have lp := l40.M.hp.ap hl
    refine ⟨p, q, r', _, rfl, l41.M.hp, upd_same, (l40.same s1).M.hp.ap hr', (by show 0 < 6; decide), (by show 6 ≤ 1000; decide), fun x H42 hx hp42 k42 => ?_⟩
    have l42 := l41.keep k42 hp42
    have hs42 := (hsa.keep (wo_mono s2)).keep (wo_keep k42)
    have hl42 : wo p H42 l = some (.lst [V.int 1]) := wo_at (k42 _ _ (by rw [upd_ne lr]; exact upd_same) lp) lp
    simp only [List.mem_cons, List.not_mem_nil, or_false] at hx
    rcases hx with e' | e' | e' | e' | e' | e' <;> subst e'
    · exact ⟨_, _, rfl, l42, hs42, .int _, by decide +kernel, .inl rfl⟩
    · refine ⟨_, _, rfl, l42, hs42, .int _, ?_, .inl rfl⟩
      rw [e6]
      decide +kernel
    · exact ⟨_, _, rfl, l42, hs42, .bl _, rfl, .inl rfl⟩
    · exact ⟨_, _, rfl, l42, hs42, .non, rfl, .inl rfl⟩
    · exact ⟨_, _, rfl, l42, hs42, .str _, rfl, .inl rfl⟩
    · exact ⟨_, _, rfl, l42, hs42, .lst _ _ hl42, rfl, .inr ⟨l, rfl⟩⟩
  clear l40 hsa
  rintro σ H41 ⟨y, n, rfl, l41, hsa, ky, wy, fy41⟩
  refine ⟨fun σ H => σ = Sg a p b kp c v5 (some (.ref o)) v7 v8 v9 v10 (some (.ref f)) (some (.ref h1)) (some (.ref h2)) v14 v15' v16 v17 v18 v19 (some (.ref kq)) (some (.ref hs)) (some y) ∧ LQ C CK H p q b c kp o f h1 h2 ks ps ys ws ∧ HistAt C CK (wo p H) hs ls [], ?_, ?_⟩
  · refine ⟨_, rfl, _, rfl, _, rfl, h1, h2, y, n, ks, ks, ys, ws, rfl, l41.a1.keep wo_same, l41.a2.keep wo_same, gk.ok, gk.ok, oy, ow, by omega, by omega, ky.keep wo_same, wy, .inr ⟨rfl, fun t42 H42 s42 ht42 => ?_⟩⟩
    refine ⟨_, rfl, (by show 2 ≤ sizeLine; decide), fun u hu => ?_⟩
    have s43 := sameUpd (o := .lst [V.str "years", y]) (Same.refl H42) hu
    refine ⟨t42, u, _, _, rfl, rfl, SqL.of (s43 _ _ ht42), SqL.of upd_same, .inr ⟨rfl, fun z hz => ?_, _, rfl, iteF ?_⟩⟩
    · simp only [List.mem_cons, List.not_mem_nil, or_false] at hz
      rcases hz with rfl | rfl
      · exact .inl rfl
      · exact fy41
    have s413 := s42.trans s43
    have l43 := l41.same s413
    have hs43 := hsa.keep (wo_mono s413)
    refine ⟨_, rfl, _, rfl, _, rfl, h1, hs, y, n, ks, ls, ys, [], rfl, l43.a1.keep wo_same, hs43.keep wo_same, gk.ok, gq.ok, oy, (fun _ h => nomatch h), by omega, (by decide), (ky.keep wo_same).keep s413, wy, .inl ⟨nkl, fun t44 H44 s44 ht44 => ?_⟩⟩
    refine ⟨(by show 2 ≤ sizeLine; decide), fun u2 hu2 => ?_⟩
    have s45 := sameUpd (o := .lst [V.str "kinds", V.bl true]) (Same.refl H44) hu2
    refine ⟨t44, u2, _, _, rfl, rfl, SqL.of (s45 _ _ ht44), SqL.of upd_same, .inr ⟨rfl, fun z hz => ?_, _, rfl, iteF ⟨rfl, l43.same (s44.trans s45), hs43.keep (wo_mono (s44.trans s45))⟩⟩⟩
    simp only [List.mem_cons, List.not_mem_nil, or_false] at hz
    rcases hz with rfl | rfl <;> exact .inl rfl
  clear l41 hsa ky
  rintro σ H45 ⟨rfl, l45, hsa⟩
  refine ⟨fun σ H => σ = Sg a p b kp c v5 (some (.ref o)) v7 v8 v9 v10 (some (.ref f)) (some (.ref h1)) (some (.ref h2)) v14 v15' v16 v17 v18 v19 (some (.ref kq)) (some (.ref hs)) (some y) ∧ LQ C CK H p q b c kp o f h1 h2 ks ps ys ws, ?_, ?_⟩
  · refine ⟨_, rfl, _, rfl, h1, hs, ks, ls, ys, [], rfl, l45.a1.keep wo_same, hsa.keep wo_same, gk.kb, gk.ok, gq.ok, by rw [List.append_nil]; exact fy, nkl, fun t46 H46 s46 ht46 => ?_⟩
    refine ⟨(by show 2 ≤ sizeLine; decide), fun u hu => ?_⟩
    have s47 := sameUpd (o := .lst [V.str "kinds", V.bl true]) (Same.refl H46) hu
    have l47 := l45.same (s46.trans s47)
    have hs47 := hsa.keep (wo_mono (s46.trans s47))
    refine ⟨t46, u, _, _, rfl, rfl, SqL.of (s47 _ _ ht46), SqL.of upd_same, .inr ⟨rfl, fun z hz => ?_, _, rfl, iteF ?_⟩⟩
    · simp only [List.mem_cons, List.not_mem_nil, or_false] at hz
      rcases hz with rfl | rfl <;> exact .inl rfl
    refine ⟨_, rfl, _, rfl, hs, h1, ls, ks, [], ys, rfl, hs47.keep wo_same, l47.a1.keep wo_same, gq.kb, gq.ok, gk.ok, fy, (fun e => nkl e.symm), fun t48 H48 s48 ht48 => ?_⟩
    refine ⟨(by show 2 ≤ sizeLine; decide), fun u2 hu2 => ?_⟩
    have s49 := sameUpd (o := .lst [V.str "kinds", V.bl true]) (Same.refl H48) hu2
    refine ⟨t48, u2, _, _, rfl, rfl, SqL.of (s49 _ _ ht48), SqL.of upd_same, .inr ⟨rfl, fun z hz => ?_, _, rfl, iteF ⟨rfl, l47.same (s48.trans s49)⟩⟩⟩
    simp only [List.mem_cons, List.not_mem_nil, or_false] at hz
    rcases hz with rfl | rfl <;> exact .inl rfl
  clear l45 hsa
  rintro σ H49 ⟨rfl, l49⟩
  have a1 := l49.a1.keep wo_same
  obtain ⟨e1, g1, kx, yx, b1, b2, b3, _, b5, b6⟩ := a1.ob
  obtain ⟨e2, g2, _, yx2, c1, _, c3, _, _, c6⟩ := (l49.a2.keep wo_same).ob
  refine ⟨_, rfl, h1, C, e1, g1, _, rfl, b1, A.HX.cl, A.HX.nY, b3, _, rfl, dYs ys, dYs ys, b6.dp, (l49.yo.keep wo_same).dp, shaped_dYs oy, shaped_dYs oy, ?_⟩
  rw [eqv_dYs, decide_eq_true rfl]
  refine ⟨_, rfl, iteT ?_⟩
  refine ⟨_, rfl, h2, C, e2, g2, _, rfl, c1, A.HX.cl, A.HX.nY, c3, _, rfl, dYs ws, dYs ws, c6.dp, (l49.yf.keep wo_same).dp, shaped_dYs ow, shaped_dYs ow, ?_⟩
  rw [eqv_dYs, decide_eq_true rfl]
  refine ⟨_, rfl, iteT ?_⟩
  obtain ⟨kdx, kfs, _, _, _, _, i1, _⟩ := b5.get (K := K)
  obtain ⟨kdx', kfs', _, _, _, _, i1', _⟩ := (l49.kd.keep wo_same).get (K := K)
  refine ⟨_, rfl, h1, C, e1, g1, _, rfl, b1, A.HX.cl, A.HX.nK, b2, _, rfl, kx, kdx, kfs, rfl, i1, .inl ⟨kp, kdx', kfs', CK, rfl, i1', A.nfK⟩, kx, _, ks, rfl, b5, gk.ok, .inl ⟨kp, ks, rfl, l49.kd.keep wo_same, gk.ok, _, rfl, ?_⟩⟩
  rw [decide_eq_true rfl]
  refine ⟨_, rfl, iteT ?_⟩
  refine ⟨_, rfl, _, rfl, _, rfl, mk_hist (l49.kd.keep wo_same) gk.kb ((l49.yo.keep wo_same).years (.inr rfl) fy) dy fun hx H50 _ s50 hatx => eq_hist A.nf (a1.keep s50) hatx gk.ok oy gk.ok oy ?_⟩
  rw [decide_eq_true ⟨rfl, rfl⟩]
end Kx

set_option maxHeartbeats 8000000
namespace Kx
open PySem PySem.Spec PyProof.Rows L2
abbrev bmV : List Value := [.type "ValueError", .type "Exception", .type "BaseException", .type "object"]
section
variable {K : PySem.W.Frag}
theorem hist_binds3 {ed f : Addr} {fd : FuncData} (F : FunD K "__init__" "History.__init__" (defArgs sHistory_init) (defBody sHistory_init) (defScope sHistory_init) [V.ref ed] [] f fd) : Binds K fd ["self", "kinds", "years"] [] := by
  obtain ⟨ds, r, b⟩ := F.binds1 (ps := ["self", "kinds", "years"]) 3 1 (by simp) rfl fun T kV doc pm an cdv ct us its h1 h2 => match us, its, h1, h2 with | [_, _, _], [_], _, _ => ⟨_, rfl, rfl⟩
  cases r
  exact b
theorem hist_binds2x {ed f : Addr} {fd : FuncData} (F : FunD K "__init__" "History.__init__" (defArgs sHistory_init) (defBody sHistory_init) (defScope sHistory_init) [V.ref ed] [] f fd) : ∃ ds, Vals [V.ref ed] ds ∧ Binds K fd ["self", "kinds", "years"] ds := by
  obtain ⟨ds, r, b⟩ := F.binds1 (ps := ["self", "kinds", "years"]) 2 0 (by simp) rfl fun T kV doc pm an cdv ct us its h1 h2 => match us, its, h1, h2 with | [_, _], [_], _, _ => ⟨_, rfl, rfl⟩
  exact ⟨ds, r, b⟩
theorem hist_binds2 {ed f : Addr} {fd : FuncData} (F : FunD K "__init__" "History.__init__" (defArgs sHistory_init) (defBody sHistory_init) (defScope sHistory_init) [V.ref ed] [] f fd) : Binds K fd ["self", "kinds", "years"] [Value.ref ed] := by
  obtain ⟨ds, r, b⟩ := hist_binds2x F
  cases r with
  | cons h t =>
    cases t
    cases h
    exact b
end
theorem all_mk {l : PySem.W.OpenLaw} {w : World} {K : PySem.W.Frag} {h : Heap} {mg : Str → Option Value} {fa : Addr} {t2 t3 t4 t5 t6 t7 : Tok} (X : K.In h) (G : h.Ns mainGlobals mg) (hfa : mg "law" = some (.ref fa))
    {f0 f1 f2 f3 f4 f5 f6 f7 f8 f9 f10 f11 f12 f13 f14 f15 f16 f17 f18 f19 f20 f21 f22 f23 f24 f25 f26 f27 g0 g1 g2 g3 g4 g5 g6 g7 g8 g9 g10 g11 g12 g13 g14 g15 C CK CB CKB CY CO CS pT ed : Addr} {od0 an0 od1 an1 od2 an2 od3 an3 od4 an4 od5 an5 od6 an6 od7 an7 od8 an8 od9 an9 od10 an10 od11 an11 od12 an12 od13 an13 od14 an14 od15 an15 od16 an16 od17 an17 od18 an18 od19 an19 od20 an20 od21 an21 od22 an22 od23 an23 od24 an24 od25 an25 od26 an26 od27 an27 pd0 bn0 pd1 bn1 pd2 bn2 pd3 bn3 pd4 bn4 pd5 bn5 pd6 bn6 pd7 bn7 pd8 bn8 pd9 bn9 pd10 bn10 pd11 bn11 pd12 bn12 pd13 bn13 pd14 bn14 pd15 bn15 tod eod : Option Addr} {sl0 sl1 sl2 sl3 sl4 sl5 sl6 sl7 sl8 sl9 sl10 sl11 sl12 sl13 sl14 sl15 sl16 sl17 sl18 sl19 sl20 sl21 sl22 sl23 sl24 sl25 sl26 sl27 tl0 tl1 tl2 tl3 tl4 tl5 tl6 tl7 tl8 tl9 tl10 tl11 tl12 tl13 tl14 tl15 tsl esl : Array (Option Value)} {oc0 kV0 dc0 pm0 cd0 ct0 oc1 kV1 dc1 pm1 cd1 ct1 oc2 kV2 dc2 pm2 cd2 ct2 oc3 kV3 dc3 pm3 cd3 ct3 oc4 kV4 dc4 pm4 cd4 ct4 oc5 kV5 dc5 pm5 cd5 ct5 oc6 kV6 dc6 pm6 cd6 ct6 oc7 kV7 dc7 pm7 cd7 ct7 oc8 kV8 dc8 pm8 cd8 ct8 oc9 kV9 dc9 pm9 cd9 ct9 oc10 kV10 dc10 pm10 cd10 ct10 oc11 kV11 dc11 pm11 cd11 ct11 oc12 kV12 dc12 pm12 cd12 ct12 oc13 kV13 dc13 pm13 cd13 ct13 oc14 kV14 dc14 pm14 cd14 ct14 oc15 kV15 dc15 pm15 cd15 ct15 oc16 kV16 dc16 pm16 cd16 ct16 oc17 kV17 dc17 pm17 cd17 ct17 oc18 kV18 dc18 pm18 cd18 ct18 oc19 kV19 dc19 pm19 cd19 ct19 oc20 kV20 dc20 pm20 cd20 ct20 oc21 kV21 dc21 pm21 cd21 ct21 oc22 kV22 dc22 pm22 cd22 ct22 oc23 kV23 dc23 pm23 cd23 ct23 oc24 kV24 dc24 pm24 cd24 ct24 oc25 kV25 dc25 pm25 cd25 ct25 oc26 kV26 dc26 pm26 cd26 ct26 oc27 kV27 dc27 pm27 cd27 ct27 pc0 lV0 ec0 qm0 dd0 dt0 pc1 lV1 ec1 qm1 dd1 dt1 pc2 lV2 ec2 qm2 dd2 dt2 pc3 lV3 ec3 qm3 dd3 dt3 pc4 lV4 ec4 qm4 dd4 dt4 pc5 lV5 ec5 qm5 dd5 dt5 pc6 lV6 ec6 qm6 dd6 dt6 pc7 lV7 ec7 qm7 dd7 dt7 pc8 lV8 ec8 qm8 dd8 dt8 pc9 lV9 ec9 qm9 dd9 dt9 pc10 lV10 ec10 qm10 dd10 dt10 pc11 lV11 ec11 qm11 dd11 dt11 pc12 lV12 ec12 qm12 dd12 dt12 pc13 lV13 ec13 qm13 dd13 dt13 pc14 lV14 ec14 qm14 dd14 dt14 pc15 lV15 ec15 qm15 dd15 dt15 toc : Value} {tn en : Nat}
    (a0 : PySem.W.nsIn K mainGlobals "is_whole" = some (some (.ref f0)))
    (l0 : K.lookup f0 = some ⟨oc0, od0, .func (PySem.W.fnOf "is_whole" "is_whole" (defArgs sWhole) (defBody sWhole) (defScope sWhole) .none kV0 dc0 pm0 an0 cd0 ct0), sl0⟩)
    (c0 : PySem.W.codeIn K cd0 "is_whole" = true)
    (k0 : PySem.W.keepIn K (.ref f0) = true)
    (a1 : PySem.W.nsIn K mainGlobals "is_label" = some (some (.ref f1)))
    (l1 : K.lookup f1 = some ⟨oc1, od1, .func (PySem.W.fnOf "is_label" "is_label" (defArgs sLabel) (defBody sLabel) (defScope sLabel) .none kV1 dc1 pm1 an1 cd1 ct1), sl1⟩)
    (c1 : PySem.W.codeIn K cd1 "is_label" = true)
    (k1 : PySem.W.keepIn K (.ref f1) = true)
    (a2 : PySem.W.nsIn K mainGlobals "is_sequence" = some (some (.ref f2)))
    (l2 : K.lookup f2 = some ⟨oc2, od2, .func (PySem.W.fnOf "is_sequence" "is_sequence" (defArgs sSeq) (defBody sSeq) (defScope sSeq) .none kV2 dc2 pm2 an2 cd2 ct2), sl2⟩)
    (c2 : PySem.W.codeIn K cd2 "is_sequence" = true)
    (k2 : PySem.W.keepIn K (.ref f2) = true)
    (a3 : PySem.W.nsIn K mainGlobals "_row_fault" = some (some (.ref f3)))
    (l3 : K.lookup f3 = some ⟨oc3, od3, .func (PySem.W.fnOf "_row_fault" "_row_fault" (defArgs sRowFault) (defBody sRowFault) (defScope sRowFault) .none kV3 dc3 pm3 an3 cd3 ct3), sl3⟩)
    (c3 : PySem.W.codeIn K cd3 "_row_fault" = true)
    (k3 : PySem.W.keepIn K (.ref f3) = true)
    (a4 : PySem.W.nsIn K mainGlobals "history_of" = some (some (.ref f4)))
    (l4 : K.lookup f4 = some ⟨oc4, od4, .func (PySem.W.fnOf "history_of" "history_of" (defArgs sHistoryOf) (defBody sHistoryOf) (defScope sHistoryOf) .none kV4 dc4 pm4 an4 cd4 ct4), sl4⟩)
    (c4 : PySem.W.codeIn K cd4 "history_of" = true)
    (k4 : PySem.W.keepIn K (.ref f4) = true)
    (a5 : PySem.W.nsIn K mainGlobals "_last_of" = some (some (.ref f5)))
    (l5 : K.lookup f5 = some ⟨oc5, od5, .func (PySem.W.fnOf "_last_of" "_last_of" (defArgs sLastOf) (defBody sLastOf) (defScope sLastOf) .none kV5 dc5 pm5 an5 cd5 ct5), sl5⟩)
    (c5 : PySem.W.codeIn K cd5 "_last_of" = true)
    (k5 : PySem.W.keepIn K (.ref f5) = true)
    (a6 : PySem.W.nsIn K mainGlobals "_is_too_long" = some (some (.ref f6)))
    (l6 : K.lookup f6 = some ⟨oc6, od6, .func (PySem.W.fnOf "_is_too_long" "_is_too_long" (defArgs sIsTooLong) (defBody sIsTooLong) (defScope sIsTooLong) .none kV6 dc6 pm6 an6 cd6 ct6), sl6⟩)
    (c6 : PySem.W.codeIn K cd6 "_is_too_long" = true)
    (k6 : PySem.W.keepIn K (.ref f6) = true)
    (a7 : PySem.W.nsIn K mainGlobals "_year_of" = some (some (.ref f7)))
    (l7 : K.lookup f7 = some ⟨oc7, od7, .func (PySem.W.fnOf "_year_of" "_year_of" (defArgs sYearOf) (defBody sYearOf) (defScope sYearOf) .none kV7 dc7 pm7 an7 cd7 ct7), sl7⟩)
    (c7 : PySem.W.codeIn K cd7 "_year_of" = true)
    (k7 : PySem.W.keepIn K (.ref f7) = true)
    (a8 : PySem.W.nsIn K mainGlobals "_law_mix" = some (some (.ref f8)))
    (l8 : K.lookup f8 = some ⟨oc8, od8, .func (PySem.W.fnOf "_law_mix" "_law_mix" (defArgs sMix) (defBody sMix) (defScope sMix) .none kV8 dc8 pm8 an8 cd8 ct8), sl8⟩)
    (c8 : PySem.W.codeIn K cd8 "_law_mix" = true)
    (k8 : PySem.W.keepIn K (.ref f8) = true)
    (a9 : PySem.W.nsIn K mainGlobals "_law_hand" = some (some (.ref f9)))
    (l9 : K.lookup f9 = some ⟨oc9, od9, .func (PySem.W.fnOf "_law_hand" "_law_hand" (defArgs sHand) (defBody sHand) (defScope sHand) .none kV9 dc9 pm9 an9 cd9 ct9), sl9⟩)
    (c9 : PySem.W.codeIn K cd9 "_law_hand" = true)
    (k9 : PySem.W.keepIn K (.ref f9) = true)
    (a10 : PySem.W.nsIn K mainGlobals "_law_draw" = some (some (.ref f10)))
    (l10 : K.lookup f10 = some ⟨oc10, od10, .func (PySem.W.fnOf "_law_draw" "_law_draw" (defArgs sDraw) (defBody sDraw) (defScope sDraw) .none kV10 dc10 pm10 an10 cd10 ct10), sl10⟩)
    (c10 : PySem.W.codeIn K cd10 "_law_draw" = true)
    (k10 : PySem.W.keepIn K (.ref f10) = true)
    (a11 : PySem.W.nsIn K mainGlobals "_law_one" = some (some (.ref f11)))
    (l11 : K.lookup f11 = some ⟨oc11, od11, .func (PySem.W.fnOf "_law_one" "_law_one" (defArgs sOne) (defBody sOne) (defScope sOne) .none kV11 dc11 pm11 an11 cd11 ct11), sl11⟩)
    (c11 : PySem.W.codeIn K cd11 "_law_one" = true)
    (k11 : PySem.W.keepIn K (.ref f11) = true)
    (a12 : PySem.W.nsIn K mainGlobals "_law_word" = some (some (.ref f12)))
    (l12 : K.lookup f12 = some ⟨oc12, od12, .func (PySem.W.fnOf "_law_word" "_law_word" (defArgs sWord) (defBody sWord) (defScope sWord) .none kV12 dc12 pm12 an12 cd12 ct12), sl12⟩)
    (c12 : PySem.W.codeIn K cd12 "_law_word" = true)
    (k12 : PySem.W.keepIn K (.ref f12) = true)
    (a13 : PySem.W.nsIn K mainGlobals "_law_label" = some (some (.ref f13)))
    (l13 : K.lookup f13 = some ⟨oc13, od13, .func (PySem.W.fnOf "_law_label" "_law_label" (defArgs sLLabel) (defBody sLLabel) (defScope sLLabel) .none kV13 dc13 pm13 an13 cd13 ct13), sl13⟩)
    (c13 : PySem.W.codeIn K cd13 "_law_label" = true)
    (k13 : PySem.W.keepIn K (.ref f13) = true)
    (a14 : PySem.W.nsIn K mainGlobals "_law_odd" = some (some (.ref f14)))
    (l14 : K.lookup f14 = some ⟨oc14, od14, .func (PySem.W.fnOf "_law_odd" "_law_odd" (defArgs sOdd) (defBody sOdd) (defScope sOdd) .none kV14 dc14 pm14 an14 cd14 ct14), sl14⟩)
    (c14 : PySem.W.codeIn K cd14 "_law_odd" = true)
    (k14 : PySem.W.keepIn K (.ref f14) = true)
    (a15 : PySem.W.nsIn K mainGlobals "_law_kinds" = some (some (.ref f15)))
    (l15 : K.lookup f15 = some ⟨oc15, od15, .func (PySem.W.fnOf "_law_kinds" "_law_kinds" (defArgs sLKinds) (defBody sLKinds) (defScope sLKinds) .none kV15 dc15 pm15 an15 cd15 ct15), sl15⟩)
    (c15 : PySem.W.codeIn K cd15 "_law_kinds" = true)
    (k15 : PySem.W.keepIn K (.ref f15) = true)
    (a16 : PySem.W.nsIn K mainGlobals "_law_made_deed" = some (some (.ref f16)))
    (l16 : K.lookup f16 = some ⟨oc16, od16, .func (PySem.W.fnOf "_law_made_deed" "_law_made_deed" (defArgs sLMadeDeed) (defBody sLMadeDeed) (defScope sLMadeDeed) .none kV16 dc16 pm16 an16 cd16 ct16), sl16⟩)
    (c16 : PySem.W.codeIn K cd16 "_law_made_deed" = true)
    (k16 : PySem.W.keepIn K (.ref f16) = true)
    (a17 : PySem.W.nsIn K mainGlobals "_law_odd_deed" = some (some (.ref f17)))
    (l17 : K.lookup f17 = some ⟨oc17, od17, .func (PySem.W.fnOf "_law_odd_deed" "_law_odd_deed" (defArgs sLOddDeed) (defBody sLOddDeed) (defScope sLOddDeed) .none kV17 dc17 pm17 an17 cd17 ct17), sl17⟩)
    (c17 : PySem.W.codeIn K cd17 "_law_odd_deed" = true)
    (k17 : PySem.W.keepIn K (.ref f17) = true)
    (a18 : PySem.W.nsIn K mainGlobals "_law_deed_due" = some (some (.ref f18)))
    (l18 : K.lookup f18 = some ⟨oc18, od18, .func (PySem.W.fnOf "_law_deed_due" "_law_deed_due" (defArgs sLDeedDue) (defBody sLDeedDue) (defScope sLDeedDue) .none kV18 dc18 pm18 an18 cd18 ct18), sl18⟩)
    (c18 : PySem.W.codeIn K cd18 "_law_deed_due" = true)
    (k18 : PySem.W.keepIn K (.ref f18) = true)
    (a19 : PySem.W.nsIn K mainGlobals "_law_persons" = some (some (.ref f19)))
    (l19 : K.lookup f19 = some ⟨oc19, od19, .func (PySem.W.fnOf "_law_persons" "_law_persons" (defArgs sLPersons) (defBody sLPersons) (defScope sLPersons) .none kV19 dc19 pm19 an19 cd19 ct19), sl19⟩)
    (c19 : PySem.W.codeIn K cd19 "_law_persons" = true)
    (k19 : PySem.W.keepIn K (.ref f19) = true)
    (a20 : PySem.W.nsIn K mainGlobals "_law_told_years" = some (some (.ref f20)))
    (l20 : K.lookup f20 = some ⟨oc20, od20, .func (PySem.W.fnOf "_law_told_years" "_law_told_years" (defArgs sLToldYears) (defBody sLToldYears) (defScope sLToldYears) .none kV20 dc20 pm20 an20 cd20 ct20), sl20⟩)
    (c20 : PySem.W.codeIn K cd20 "_law_told_years" = true)
    (k20 : PySem.W.keepIn K (.ref f20) = true)
    (a21 : PySem.W.nsIn K mainGlobals "_law_tuples" = some (some (.ref f21)))
    (l21 : K.lookup f21 = some ⟨oc21, od21, .func (PySem.W.fnOf "_law_tuples" "_law_tuples" (defArgs sLTuples) (defBody sLTuples) (defScope sLTuples) .none kV21 dc21 pm21 an21 cd21 ct21), sl21⟩)
    (c21 : PySem.W.codeIn K cd21 "_law_tuples" = true)
    (k21 : PySem.W.keepIn K (.ref f21) = true)
    (a22 : PySem.W.nsIn K mainGlobals "_law_agree" = some (some (.ref f22)))
    (l22 : K.lookup f22 = some ⟨oc22, od22, .func (PySem.W.fnOf "_law_agree" "_law_agree" (defArgs sLAgree) (defBody sLAgree) (defScope sLAgree) .none kV22 dc22 pm22 an22 cd22 ct22), sl22⟩)
    (c22 : PySem.W.codeIn K cd22 "_law_agree" = true)
    (k22 : PySem.W.keepIn K (.ref f22) = true)
    (a23 : PySem.W.nsIn K mainGlobals "_law_joined" = some (some (.ref f23)))
    (l23 : K.lookup f23 = some ⟨oc23, od23, .func (PySem.W.fnOf "_law_joined" "_law_joined" (defArgs sLJoined) (defBody sLJoined) (defScope sLJoined) .none kV23 dc23 pm23 an23 cd23 ct23), sl23⟩)
    (c23 : PySem.W.codeIn K cd23 "_law_joined" = true)
    (k23 : PySem.W.keepIn K (.ref f23) = true)
    (a24 : PySem.W.nsIn K mainGlobals "_law_longer" = some (some (.ref f24)))
    (l24 : K.lookup f24 = some ⟨oc24, od24, .func (PySem.W.fnOf "_law_longer" "_law_longer" (defArgs sLLonger) (defBody sLLonger) (defScope sLLonger) .none kV24 dc24 pm24 an24 cd24 ct24), sl24⟩)
    (c24 : PySem.W.codeIn K cd24 "_law_longer" = true)
    (k24 : PySem.W.keepIn K (.ref f24) = true)
    (a25 : PySem.W.nsIn K mainGlobals "_law_same_ends" = some (some (.ref f25)))
    (l25 : K.lookup f25 = some ⟨oc25, od25, .func (PySem.W.fnOf "_law_same_ends" "_law_same_ends" (defArgs sLSameEnds) (defBody sLSameEnds) (defScope sLSameEnds) .none kV25 dc25 pm25 an25 cd25 ct25), sl25⟩)
    (c25 : PySem.W.codeIn K cd25 "_law_same_ends" = true)
    (k25 : PySem.W.keepIn K (.ref f25) = true)
    (a26 : PySem.W.nsIn K mainGlobals "_law_cuts_hold" = some (some (.ref f26)))
    (l26 : K.lookup f26 = some ⟨oc26, od26, .func (PySem.W.fnOf "_law_cuts_hold" "_law_cuts_hold" (defArgs sLCutsHold) (defBody sLCutsHold) (defScope sLCutsHold) .none kV26 dc26 pm26 an26 cd26 ct26), sl26⟩)
    (c26 : PySem.W.codeIn K cd26 "_law_cuts_hold" = true)
    (k26 : PySem.W.keepIn K (.ref f26) = true)
    (a27 : PySem.W.nsIn K mainGlobals "law" = some (some (.ref f27)))
    (l27 : K.lookup f27 = some ⟨oc27, od27, .func (PySem.W.fnOf "law" "law" (defArgs sLaw) (defBody sLaw) (defScope sLaw) .none kV27 dc27 pm27 an27 cd27 ct27), sl27⟩)
    (c27 : PySem.W.codeIn K cd27 "law" = true)
    (k27 : PySem.W.keepIn K (.ref f27) = true)
    (mC : PySem.W.nsIn K mainGlobals "History" = some (some (.ref C)))
    (mCK : PySem.W.nsIn K mainGlobals "Kinds" = some (some (.ref CK)))
    (mCB : PySem.W.nsIn K mainGlobals "BadHistory" = some (some (.ref CB)))
    (mCKB : PySem.W.nsIn K mainGlobals "BadKinds" = some (some (.ref CKB)))
    (mCY : PySem.W.nsIn K mainGlobals "BadYears" = some (some (.ref CY)))
    (mCO : PySem.W.nsIn K mainGlobals "OtherKinds" = some (some (.ref CO)))
    (mCS : PySem.W.nsIn K mainGlobals "SearchError" = some (some (.ref CS)))
    (M0 : PySem.W.findIn K (.ref CKB) "__init__" = some (some (.ref g0)))
    (L0 : K.lookup g0 = some ⟨pc0, pd0, .func (PySem.W.fnOf "__init__" "BadKinds.__init__" (defArgs sBadKinds_init) (defBody sBadKinds_init) (defScope sBadKinds_init) .none lV0 ec0 qm0 bn0 dd0 dt0), tl0⟩)
    (D0 : PySem.W.codeIn K dd0 "BadKinds.__init__" = true)
    (N0 : PySem.W.keepIn K (.ref g0) = true)
    (T0 : PySem.W.typeIn K (.ref g0) = some (.type "function"))
    (M1 : PySem.W.findIn K (.ref CB) "__init__" = some (some (.ref g1)))
    (L1 : K.lookup g1 = some ⟨pc1, pd1, .func (PySem.W.fnOf "__init__" "BadHistory.__init__" (defArgs sBadHistory_init) (defBody sBadHistory_init) (defScope sBadHistory_init) .none lV1 ec1 qm1 bn1 dd1 dt1), tl1⟩)
    (D1 : PySem.W.codeIn K dd1 "BadHistory.__init__" = true)
    (N1 : PySem.W.keepIn K (.ref g1) = true)
    (T1 : PySem.W.typeIn K (.ref g1) = some (.type "function"))
    (M2 : PySem.W.findIn K (.ref CY) "__init__" = some (some (.ref g2)))
    (L2 : K.lookup g2 = some ⟨pc2, pd2, .func (PySem.W.fnOf "__init__" "BadYears.__init__" (defArgs sBadYears_init) (defBody sBadYears_init) (defScope sBadYears_init) .none lV2 ec2 qm2 bn2 dd2 dt2), tl2⟩)
    (D2 : PySem.W.codeIn K dd2 "BadYears.__init__" = true)
    (N2 : PySem.W.keepIn K (.ref g2) = true)
    (T2 : PySem.W.typeIn K (.ref g2) = some (.type "function"))
    (M3 : PySem.W.findIn K (.ref CK) "__init__" = some (some (.ref g3)))
    (L3 : K.lookup g3 = some ⟨pc3, pd3, .func (PySem.W.fnOf "__init__" "Kinds.__init__" (defArgs sKinds_init) (defBody sKinds_init) (defScope sKinds_init) .none lV3 ec3 qm3 bn3 dd3 dt3), tl3⟩)
    (D3 : PySem.W.codeIn K dd3 "Kinds.__init__" = true)
    (N3 : PySem.W.keepIn K (.ref g3) = true)
    (T3 : PySem.W.typeIn K (.ref g3) = some (.type "function"))
    (M4 : PySem.W.findIn K (.ref CK) "__eq__" = some (some (.ref g4)))
    (L4 : K.lookup g4 = some ⟨pc4, pd4, .func (PySem.W.fnOf "__eq__" "Kinds.__eq__" (defArgs sKinds_eq) (defBody sKinds_eq) (defScope sKinds_eq) .none lV4 ec4 qm4 bn4 dd4 dt4), tl4⟩)
    (D4 : PySem.W.codeIn K dd4 "Kinds.__eq__" = true)
    (N4 : PySem.W.keepIn K (.ref g4) = true)
    (T4 : PySem.W.typeIn K (.ref g4) = some (.type "function"))
    (M5 : PySem.W.findIn K (.ref CK) "__contains__" = some (some (.ref g5)))
    (L5 : K.lookup g5 = some ⟨pc5, pd5, .func (PySem.W.fnOf "__contains__" "Kinds.__contains__" (defArgs sKinds_contains) (defBody sKinds_contains) (defScope sKinds_contains) .none lV5 ec5 qm5 bn5 dd5 dt5), tl5⟩)
    (D5 : PySem.W.codeIn K dd5 "Kinds.__contains__" = true)
    (N5 : PySem.W.keepIn K (.ref g5) = true)
    (T5 : PySem.W.typeIn K (.ref g5) = some (.type "function"))
    (M6 : PySem.W.findIn K (.ref CK) "fault" = some (some (.ref g6)))
    (L6 : K.lookup g6 = some ⟨pc6, pd6, .func (PySem.W.fnOf "fault" "Kinds.fault" (defArgs sKinds_fault) (defBody sKinds_fault) (defScope sKinds_fault) .none lV6 ec6 qm6 bn6 dd6 dt6), tl6⟩)
    (D6 : PySem.W.codeIn K dd6 "Kinds.fault" = true)
    (N6 : PySem.W.keepIn K (.ref g6) = true)
    (T6 : PySem.W.typeIn K (.ref g6) = some (.type "function"))
    (M7 : PySem.W.findIn K (.ref C) "__eq__" = some (some (.ref g7)))
    (L7 : K.lookup g7 = some ⟨pc7, pd7, .func (PySem.W.fnOf "__eq__" "History.__eq__" (defArgs sHistory_eq) (defBody sHistory_eq) (defScope sHistory_eq) .none lV7 ec7 qm7 bn7 dd7 dt7), tl7⟩)
    (D7 : PySem.W.codeIn K dd7 "History.__eq__" = true)
    (N7 : PySem.W.keepIn K (.ref g7) = true)
    (T7 : PySem.W.typeIn K (.ref g7) = some (.type "function"))
    (M8 : PySem.W.findIn K (.ref C) "__len__" = some (some (.ref g8)))
    (L8 : K.lookup g8 = some ⟨pc8, pd8, .func (PySem.W.fnOf "__len__" "History.__len__" (defArgs sHistory_len) (defBody sHistory_len) (defScope sHistory_len) .none lV8 ec8 qm8 bn8 dd8 dt8), tl8⟩)
    (D8 : PySem.W.codeIn K dd8 "History.__len__" = true)
    (N8 : PySem.W.keepIn K (.ref g8) = true)
    (T8 : PySem.W.typeIn K (.ref g8) = some (.type "function"))
    (M9 : PySem.W.findIn K (.ref C) "first" = some (some (.ref g9)))
    (L9 : K.lookup g9 = some ⟨pc9, pd9, .func (PySem.W.fnOf "first" "History.first" (defArgs sHistory_first) (defBody sHistory_first) (defScope sHistory_first) .none lV9 ec9 qm9 bn9 dd9 dt9), tl9⟩)
    (D9 : PySem.W.codeIn K dd9 "History.first" = true)
    (N9 : PySem.W.keepIn K (.ref g9) = true)
    (T9 : PySem.W.typeIn K (.ref g9) = some (.type "function"))
    (M10 : PySem.W.findIn K (.ref C) "last" = some (some (.ref g10)))
    (L10 : K.lookup g10 = some ⟨pc10, pd10, .func (PySem.W.fnOf "last" "History.last" (defArgs sHistory_last) (defBody sHistory_last) (defScope sHistory_last) .none lV10 ec10 qm10 bn10 dd10 dt10), tl10⟩)
    (D10 : PySem.W.codeIn K dd10 "History.last" = true)
    (N10 : PySem.W.keepIn K (.ref g10) = true)
    (T10 : PySem.W.typeIn K (.ref g10) = some (.type "function"))
    (M11 : PySem.W.findIn K (.ref C) "beginnings" = some (some (.ref g11)))
    (L11 : K.lookup g11 = some ⟨pc11, pd11, .func (PySem.W.fnOf "beginnings" "History.beginnings" (defArgs sHistory_beginnings) (defBody sHistory_beginnings) (defScope sHistory_beginnings) .none lV11 ec11 qm11 bn11 dd11 dt11), tl11⟩)
    (D11 : PySem.W.codeIn K dd11 "History.beginnings" = true)
    (N11 : PySem.W.keepIn K (.ref g11) = true)
    (T11 : PySem.W.typeIn K (.ref g11) = some (.type "function"))
    (M12 : PySem.W.findIn K (.ref C) "joined" = some (some (.ref g12)))
    (L12 : K.lookup g12 = some ⟨pc12, pd12, .func (PySem.W.fnOf "joined" "History.joined" (defArgs sHistory_joined) (defBody sHistory_joined) (defScope sHistory_joined) .none lV12 ec12 qm12 bn12 dd12 dt12), tl12⟩)
    (D12 : PySem.W.codeIn K dd12 "History.joined" = true)
    (N12 : PySem.W.keepIn K (.ref g12) = true)
    (T12 : PySem.W.typeIn K (.ref g12) = some (.type "function"))
    (M13 : PySem.W.findIn K (.ref C) "then_year" = some (some (.ref g13)))
    (L13 : K.lookup g13 = some ⟨pc13, pd13, .func (PySem.W.fnOf "then_year" "History.then_year" (defArgs sHistory_then_year) (defBody sHistory_then_year) (defScope sHistory_then_year) .none lV13 ec13 qm13 bn13 dd13 dt13), tl13⟩)
    (D13 : PySem.W.codeIn K dd13 "History.then_year" = true)
    (N13 : PySem.W.keepIn K (.ref g13) = true)
    (T13 : PySem.W.typeIn K (.ref g13) = some (.type "function"))
    (M14 : PySem.W.findIn K (.ref C) "agrees" = some (some (.ref g14)))
    (L14 : K.lookup g14 = some ⟨pc14, pd14, .func (PySem.W.fnOf "agrees" "History.agrees" (defArgs sHistory_agrees) (defBody sHistory_agrees) (defScope sHistory_agrees) .none lV14 ec14 qm14 bn14 dd14 dt14), tl14⟩)
    (D14 : PySem.W.codeIn K dd14 "History.agrees" = true)
    (N14 : PySem.W.keepIn K (.ref g14) = true)
    (T14 : PySem.W.typeIn K (.ref g14) = some (.type "function"))
    (M15 : PySem.W.findIn K (.ref C) "__init__" = some (some (.ref g15)))
    (L15 : K.lookup g15 = some ⟨pc15, pd15, .func (PySem.W.fnOf "__init__" "History.__init__" (defArgs sHistory_init) (defBody sHistory_init) (defScope sHistory_init) (.ref pT) lV15 ec15 qm15 bn15 dd15 dt15), tl15⟩)
    (D15 : PySem.W.codeIn K dd15 "History.__init__" = true)
    (N15 : PySem.W.keepIn K (.ref g15) = true)
    (T15 : PySem.W.typeIn K (.ref g15) = some (.type "function"))
    (H1 : K.lookup pT = some ⟨toc, tod, .seq #[.ref ed] tn, tsl⟩)
    (H2 : K.lookup ed = some ⟨.type "tuple", eod, .seq #[] en, esl⟩)
    (u1C : PySem.W.plainGet K C Str.empty = true)
    (u2C : PySem.W.hasDictIn K C = true)
    (u3C : PySem.W.plainOver K C = true)
    (u4C : PySem.W.findIn K (.ref C) "__setattr__" = some (some (.builtin "object.__setattr__")))
    (u5C_kinds : PySem.W.findIn K (.ref C) "kinds" = some none)
    (u5C_years : PySem.W.findIn K (.ref C) "years" = some none)
    (u6C : PySem.W.findIn K (.ref C) "__class__" = some (some (.builtin "object.__class__")))
    (u7C : PySem.W.mroIn K C (.type "object") = some true)
    (u8C : PySem.W.makesIn K C = true)
    (u9C : PySem.W.keepIn K (.ref C) = true)
    (uAC : PySem.W.findIn K (.ref C) "__ne__" = some (some (.builtin "object.__ne__")))
    (uCC : PySem.W.notFirst K C (.ref C) = true)
    (wC_NoneType : PySem.W.kitOne K (.type "NoneType") (.ref C) = some false)
    (wC_list : PySem.W.kitOne K (.type "list") (.ref C) = some false)
    (wC_str : PySem.W.kitOne K (.type "str") (.ref C) = some false)
    (wC_tuple : PySem.W.kitOne K (.type "tuple") (.ref C) = some false)
    (u1CK : PySem.W.plainGet K CK Str.empty = true)
    (u2CK : PySem.W.hasDictIn K CK = true)
    (u3CK : PySem.W.plainOver K CK = true)
    (u4CK : PySem.W.findIn K (.ref CK) "__setattr__" = some (some (.builtin "object.__setattr__")))
    (u5CK_rows : PySem.W.findIn K (.ref CK) "rows" = some none)
    (u5CK_names : PySem.W.findIn K (.ref CK) "names" = some none)
    (u5CK__arities : PySem.W.findIn K (.ref CK) "_arities" = some none)
    (u6CK : PySem.W.findIn K (.ref CK) "__class__" = some (some (.builtin "object.__class__")))
    (u7CK : PySem.W.mroIn K CK (.type "object") = some true)
    (u8CK : PySem.W.makesIn K CK = true)
    (u9CK : PySem.W.keepIn K (.ref CK) = true)
    (uACK : PySem.W.findIn K (.ref CK) "__ne__" = some (some (.builtin "object.__ne__")))
    (uCCK : PySem.W.notFirst K CK (.ref CK) = true)
    (wCK_NoneType : PySem.W.kitOne K (.type "NoneType") (.ref CK) = some false)
    (wCK_list : PySem.W.kitOne K (.type "list") (.ref CK) = some false)
    (wCK_str : PySem.W.kitOne K (.type "str") (.ref CK) = some false)
    (wCK_tuple : PySem.W.kitOne K (.type "tuple") (.ref CK) = some false)
    (q1 : PySem.W.specialIn K (.builtin "object.__class__") "__get__" = some (some (.builtin "getset_descriptor.__get__")))
    (q2 : PySem.W.takesIn K (.builtin "object.__class__") = some true)
    (nCB_year : PySem.W.findIn K (.ref CB) "year" = some none)
    (nCB_index : PySem.W.findIn K (.ref CB) "index" = some none)
    (nCB_what : PySem.W.findIn K (.ref CB) "what" = some none)
    (nCKB_index : PySem.W.findIn K (.ref CKB) "index" = some none)
    (nCKB_what : PySem.W.findIn K (.ref CKB) "what" = some none)
    (nCY_years : PySem.W.findIn K (.ref CY) "years" = some none)
    (xCB : PySem.W.exmOne K (.ref CB) (.ref CB) = some true)
    (xCY : PySem.W.exmOne K (.ref CY) (.ref CY) = some true)
    (xCO : PySem.W.exmOne K (.ref CO) (.ref CO) = some true)
    (xOY : PySem.W.exmOne K (.ref CO) (.ref CY) = some false)
    (wOS : PySem.W.kitOne K (.ref CO) (.ref CS) = some true)
    (eO1 : PySem.W.excIn K CO bmV "ValueError.__new__" = true)
    (eO2 : PySem.W.keepIn K (.ref CO) = true)
    (eO3 : PySem.W.subIn K (.ref CO) (.type "BaseException") = some true)
    (eO4 : PySem.W.typeIn K (.ref CO) = some (.type "type"))
    (eO5 : PySem.W.findIn K (.ref CO) "__getattribute__" = some (some (.builtin "BaseException.__getattribute__")))
    (eO6 : PySem.W.findIn K (.ref CO) "__getattr__" = some none)
    (eO7 : PySem.W.hasDictIn K CO = true)
    (eO8 : PySem.W.findIn K (.ref CO) "__class__" = some (some (.builtin "object.__class__")))
    (eO9 : PySem.W.mroIn K CO (.type "object") = some true)
    (y2 : PySem.W.nsIn K mainGlobals "LONGEST_LABEL" = some (some (.int 6 t2)))
    (y3 : PySem.W.nsIn K mainGlobals "YEAR" = some (some (.str "year" t3)))
    (y4 : PySem.W.nsIn K mainGlobals "MOST_ARITY" = some (some (.int 2 t4)))
    (y5 : PySem.W.nsIn K mainGlobals "MOST_KINDS" = some (some (.int 6 t5)))
    (y6 : PySem.W.nsIn K mainGlobals "MOST_YEARS" = some (some (.int 1000000 t6)))
    (y7 : PySem.W.nsIn K mainGlobals "MOST_DEEDS" = some (some (.int 1000000 t7)))
    (o1CB : ∃ nm q N bs bm sn sub ab col dd k0 k1 k2 k3 k5, K.lookup CB = some (excClassObj nm q CB N bs bm true sn sub ab col dd k0 k1 k2 k3 k5 "ValueError.__new__") ∧ PySem.HandSPX.refsVE bm = true)
    (o2CB : PySem.W.findIn K (.ref CB) "__setattr__" = some (some (.builtin "object.__setattr__")))
    (o3CB : PySem.W.subIn K (.ref CB) (.type "BaseException") = some true)
    (o4CB : PySem.W.typeIn K (.ref CB) = some (.type "type"))
    (o5CB : PySem.W.keepIn K (.ref CB) = true)
    (o6CB : PySem.W.findIn K (.ref CB) "__getattribute__" = some (some (.builtin "BaseException.__getattribute__")))
    (o7CB : PySem.W.findIn K (.ref CB) "__getattr__" = some none)
    (o8CB : PySem.W.hasDictIn K CB = true)
    (o1CKB : ∃ nm q N bs bm sn sub ab col dd k0 k1 k2 k3 k5, K.lookup CKB = some (excClassObj nm q CKB N bs bm true sn sub ab col dd k0 k1 k2 k3 k5 "ValueError.__new__") ∧ PySem.HandSPX.refsVE bm = true)
    (o2CKB : PySem.W.findIn K (.ref CKB) "__setattr__" = some (some (.builtin "object.__setattr__")))
    (o3CKB : PySem.W.subIn K (.ref CKB) (.type "BaseException") = some true)
    (o4CKB : PySem.W.typeIn K (.ref CKB) = some (.type "type"))
    (o5CKB : PySem.W.keepIn K (.ref CKB) = true)
    (o6CKB : PySem.W.findIn K (.ref CKB) "__getattribute__" = some (some (.builtin "BaseException.__getattribute__")))
    (o7CKB : PySem.W.findIn K (.ref CKB) "__getattr__" = some none)
    (o8CKB : PySem.W.hasDictIn K CKB = true)
    (o1CY : ∃ nm q N bs bm sn sub ab col dd k0 k1 k2 k3 k5, K.lookup CY = some (excClassObj nm q CY N bs bm true sn sub ab col dd k0 k1 k2 k3 k5 "ValueError.__new__") ∧ PySem.HandSPX.refsVE bm = true)
    (o2CY : PySem.W.findIn K (.ref CY) "__setattr__" = some (some (.builtin "object.__setattr__")))
    (o3CY : PySem.W.subIn K (.ref CY) (.type "BaseException") = some true)
    (o4CY : PySem.W.typeIn K (.ref CY) = some (.type "type"))
    (o5CY : PySem.W.keepIn K (.ref CY) = true)
    (o6CY : PySem.W.findIn K (.ref CY) "__getattribute__" = some (some (.builtin "BaseException.__getattribute__")))
    (o7CY : PySem.W.findIn K (.ref CY) "__getattr__" = some none)
    (o8CY : PySem.W.hasDictIn K CY = true)
    (z_int : PySem.W.nsIn K mainGlobals "int" = some none)
    (z_abs : PySem.W.nsIn K mainGlobals "abs" = some none)
    (z_len : PySem.W.nsIn K mainGlobals "len" = some none)
    (z_enumerate : PySem.W.nsIn K mainGlobals "enumerate" = some none)
    (z_range : PySem.W.nsIn K mainGlobals "range" = some none)
    (z_isinstance : PySem.W.nsIn K mainGlobals "isinstance" = some none)
    (z_str : PySem.W.nsIn K mainGlobals "str" = some none)
    (z_bool : PySem.W.nsIn K mainGlobals "bool" = some none)
    (z_list : PySem.W.nsIn K mainGlobals "list" = some none)
    (z_tuple : PySem.W.nsIn K mainGlobals "tuple" = some none)
    (z_sum : PySem.W.nsIn K mainGlobals "sum" = some none)
    (z_repr : PySem.W.nsIn K mainGlobals "repr" = some none)
    (z_max : PySem.W.nsIn K mainGlobals "max" = some none) :
    ∀ (base : Heap) (s : Shared) (H : Hp) (a : Addr) (ns : List Int), K.In base → base.Ns mainGlobals mg → Env0 l.prog w K mg base callerA [] s H → SqL K H a (ns.map V.int) → ns.length ≤ 63 →
      codeAny (model l.prog w) callerA (.call (.ref fa) ⟨[.ref a], []⟩) (_root_.L2.CR CX0 [] l.prog w H s QT EF) s := by
  have e := hfa.symm.trans (PySem.W.mg_of X G a27)
  cases e
  intro base s H a ns _ _ e0 hS hn
  have T : Bl mg := ⟨(PySem.W.mg_none_of X G z_int), (PySem.W.mg_none_of X G z_abs), (PySem.W.mg_none_of X G z_len), (PySem.W.mg_none_of X G z_enumerate), (PySem.W.mg_none_of X G z_range)⟩
  have B : Bm mg := ⟨(PySem.W.mg_none_of X G z_isinstance), (PySem.W.mg_none_of X G z_str), (PySem.W.mg_none_of X G z_bool), (PySem.W.mg_none_of X G z_list), (PySem.W.mg_none_of X G z_tuple), ⟨_, PySem.W.mg_of X G y2⟩⟩
  have R : Rp mg := ⟨(PySem.W.mg_none_of X G z_repr), (PySem.W.mg_none_of X G z_max)⟩
  have Mm : Km mg := ⟨⟨_, PySem.W.mg_of X G y3⟩, ⟨_, PySem.W.mg_of X G y4⟩, ⟨_, PySem.W.mg_of X G y5⟩⟩
  have Mh : Hm mg := ⟨⟨_, PySem.W.mg_of X G y6⟩, ⟨_, PySem.W.mg_of X G y7⟩, (PySem.W.mg_none_of X G z_sum)⟩
  have KX : KC K CK := ⟨⟨u1CK, u2CK, u3CK, u4CK⟩, u5CK_rows, u5CK_names, u5CK__arities, u6CK, q1, q2, u7CK, wCK_tuple⟩
  have HX : HC K C := ⟨⟨u1C, u2C, u3C, u4C⟩, u5C_kinds, u5C_years, u6C, q1, q2, u7C⟩
  have NK : NotOf K CK := ⟨wCK_NoneType, wCK_list, wCK_str, wCK_tuple⟩
  have NH : NotOf K C := ⟨wC_NoneType, wC_list, wC_str, wC_tuple⟩
  have XCB : XfC K CB := ⟨o6CB, o7CB, o3CB, o8CB⟩
  have OCB : OexC K CB := ⟨o1CB, o2CB, o3CB, o4CB, o5CB⟩
  have XCKB : XfC K CKB := ⟨o6CKB, o7CKB, o3CKB, o8CKB⟩
  have OCKB : OexC K CKB := ⟨o1CKB, o2CKB, o3CKB, o4CKB, o5CKB⟩
  have XCY : XfC K CY := ⟨o6CY, o7CY, o3CY, o8CY⟩
  have OCY : OexC K CY := ⟨o1CY, o2CY, o3CY, o4CY, o5CY⟩
  have mix := ok_mix (P := l.prog) (w := w) (mg := mg) (base := base) (fun_mk (st := sMix) l8 c8 k8) (PySem.W.mg_of X G a8) T
  have draw := ok_draw (P := l.prog) (w := w) (mg := mg) (base := base) (fun_mk (st := sDraw) l10 c10 k10) (PySem.W.mg_of X G a10) T mix
  have hand := ok_hand (P := l.prog) (w := w) (mg := mg) (base := base) (fun_mk (st := sHand) l9 c9 k9) (PySem.W.mg_of X G a9) T
  have one := ok_one (P := l.prog) (w := w) (mg := mg) (base := base) (fun_mk (st := sOne) l11 c11 k11) (PySem.W.mg_of X G a11) T draw
  have word := ok_word (P := l.prog) (w := w) (mg := mg) (base := base) (fun_mk (st := sWord) l12 c12 k12) (PySem.W.mg_of X G a12) T draw
  have whole := ok_whole (P := l.prog) (w := w) (mg := mg) (base := base) (fun_mk (st := sWhole) l0 c0 k0) (PySem.W.mg_of X G a0) T B
  have label := ok_label (P := l.prog) (w := w) (mg := mg) (base := base) (fun_mk (st := sLabel) l1 c1 k1) (PySem.W.mg_of X G a1) T B
  have seq := ok_seq (P := l.prog) (w := w) (mg := mg) (base := base) (fun_mk (st := sSeq) l2 c2 k2) (PySem.W.mg_of X G a2) B
  have seqK := ok_seqK (P := l.prog) (w := w) (mg := mg) (base := base) (fun_mk (st := sSeq) l2 c2 k2) (PySem.W.mg_of X G a2) B
  have llab := ok_llab (P := l.prog) (w := w) (mg := mg) (base := base) (fun_mk (st := sLLabel) l13 c13 k13) (PySem.W.mg_of X G a13) T B
  have rowf := ok_rowfault (P := l.prog) (w := w) (mg := mg) (base := base) (fun_mk (st := sRowFault) l3 c3 k3) (PySem.W.mg_of X G a3) T B Mm seq label whole
  have EKB : ErC l.prog w K mg base "BadKinds" ["self", "index", "what"] CKB g0 _ (spInit2 K CKB "index" "what") := ⟨OCKB, M0, T0, PySem.W.mg_of X G mCKB, (fun_mk (st := sBadKinds_init) L0 D0 N0).binds (fun _ _ _ _ _ _ us hl => match us, hl with | [_, _, _], _ => rfl), ok_BadKinds (fun_mk (st := sBadKinds_init) L0 D0 N0), XCKB⟩
  have EB0 : ErC l.prog w K mg base "BadHistory" ["self", "year", "index", "what"] CB g1 _ (spInit3 K CB "year" "index" "what") := ⟨OCB, M1, T1, PySem.W.mg_of X G mCB, (fun_mk (st := sBadHistory_init) L1 D1 N1).binds (fun _ _ _ _ _ _ us hl => match us, hl with | [_, _, _, _], _ => rfl), ok_BadHistory (fun_mk (st := sBadHistory_init) L1 D1 N1), XCB⟩
  have EY0 : ErC l.prog w K mg base "BadYears" ["self", "years"] CY g2 _ (spInit1 K CY "years") := ⟨OCY, M2, T2, PySem.W.mg_of X G mCY, (fun_mk (st := sBadYears_init) L2 D2 N2).binds (fun _ _ _ _ _ _ us hl => match us, hl with | [_, _], _ => rfl), ok_BadYears (fun_mk (st := sBadYears_init) L2 D2 N2), XCY⟩
  have EB : BH l.prog w K mg base CB g1 _ := ⟨EB0, nCB_year, nCB_index, nCB_what⟩
  have EY : BY l.prog w K mg base CY g2 _ := ⟨EY0, nCY_years⟩
  have OO : OwnE K mg "OtherKinds" CO "ValueError" "ValueError.__new__" "ValueError.__init__" bmV := ⟨PySem.F.excBase_ValueError, eO1, PySem.W.mg_of X G mCO, eO2, eO3, eO4⟩
  have EO : ErO K mg CO CS CY := ⟨PySem.W.mg_of X G mCO, PySem.W.mg_of X G mCS, ⟨eO5, eO6, eO3, eO7, eO8, q1, q2, eO9⟩, xCO, xOY, wOS⟩
  have mH := PySem.W.mg_of X G mC
  have mK := PySem.W.mg_of X G mCK
  have MK : Mk K CK g3 := ⟨u8CK, M3, (by unfold PySem.W.isFn; rw [T3]; rfl), u9CK⟩
  have GK := ok_kinds (P := l.prog) (w := w) (mg := mg) (base := base) (fun_mk (st := sKinds_init) L3 D3 N3) T B Mm KX seq rowf EKB nCKB_index nCKB_what
  have bK := (fun_mk (st := sKinds_init) L3 D3 N3).binds (ps := ["self", "rows"]) (fun _ _ _ _ _ _ us hl => match us, hl with | [_, _], _ => rfl)
  have oE : OwnM l.prog w K mg base CK "__eq__" 1 ["self", "other"] (spKEq CK) g4 _ := ⟨⟨M4, (by unfold PySem.W.isFn; rw [T4]; rfl), N4⟩, ok_keq (fun_mk (st := sKinds_eq) L4 D4 N4) B KX mK, (fun_mk (st := sKinds_eq) L4 D4 N4).binds (fun _ _ _ _ _ _ us hl => match us, hl with | [_, _], _ => rfl)⟩
  have oI : OwnM l.prog w K mg base CK "__contains__" 1 ["self", "thing"] (spKIn CK) g5 _ := ⟨⟨M5, (by unfold PySem.W.isFn; rw [T5]; rfl), N5⟩, ok_kin (fun_mk (st := sKinds_contains) L5 D5 N5) B KX, (fun_mk (st := sKinds_contains) L5 D5 N5).binds (fun _ _ _ _ _ _ us hl => match us, hl with | [_, _], _ => rfl)⟩
  have oF : OwnM l.prog w K mg base CK "fault" 2 ["self", "deed"] (spFault CK) g6 _ := ⟨⟨M6, (by unfold PySem.W.isFn; rw [T6]; rfl), N6⟩, ok_fault (fun_mk (st := sKinds_fault) L6 D6 N6) T KX oI seq label, (fun_mk (st := sKinds_fault) L6 D6 N6).binds (fun _ _ _ _ _ _ us hl => match us, hl with | [_, _], _ => rfl)⟩
  have long := ok_long (P := l.prog) (w := w) (mg := mg) (base := base) (fun_mk (st := sIsTooLong) l6 c6 k6) (PySem.W.mg_of X G a6) T Mh seqK
  have yearof := ok_yearof (P := l.prog) (w := w) (mg := mg) (base := base) (fun_mk (st := sYearOf) l7 c7 k7) (PySem.W.mg_of X G a7) T B KX seqK oF EB
  have bY := (fun_mk (st := sYearOf) l7 c7 k7).binds (ps := ["kinds", "index", "year"]) (fun _ _ _ _ _ _ us hl => match us, hl with | [_, _, _], _ => rfl)
  have FI : FunD K "__init__" "History.__init__" (defArgs sHistory_init) (defBody sHistory_init) (defScope sHistory_init) [V.ref ed] [] g15 _ := ⟨⟨_, _, _, _, _, _, _, _, _, _, rfl, L15, D15, .inr ⟨by simp, pT, _, [.ref ed], _, rfl, H1, rfl, .cons rfl .nil⟩, .inl rfl⟩, N15⟩
  have MH : Mk K C g15 := ⟨u8C, M15, (by unfold PySem.W.isFn; rw [T15]; rfl), u9C⟩
  have GH := ok_hist (P := l.prog) (w := w) (mg := mg) (base := base) (C := C) FI T B KX HX NK mK seqK long yearof (PySem.W.mg_of X G a7) k7 bY EB
  have bH := hist_binds3 FI
  have we : Wnil K ed := ⟨_, H2, rfl, _, rfl⟩
  have rdH : Vals [V.ref ed] [Value.ref ed] := .cons rfl .nil
  have bHD := hist_binds2 FI
  have oHE : OwnM l.prog w K mg base C "__eq__" 2 ["self", "other"] (spHEq C CK) g7 _ := ⟨⟨M7, (by unfold PySem.W.isFn; rw [T7]; rfl), N7⟩, ok_heq (fun_mk (st := sHistory_eq) L7 D7 N7) B HX KX NH mH oE uCCK, (fun_mk (st := sHistory_eq) L7 D7 N7).binds (fun _ _ _ _ _ _ us hl => match us, hl with | [_, _], _ => rfl)⟩
  have oHL : OwnM l.prog w K mg base C "__len__" 1 ["self"] (spHLen C CK) g8 _ := ⟨⟨M8, (by unfold PySem.W.isFn; rw [T8]; rfl), N8⟩, ok_hlen (fun_mk (st := sHistory_len) L8 D8 N8) T HX, (fun_mk (st := sHistory_len) L8 D8 N8).binds (fun _ _ _ _ _ _ us hl => match us, hl with | [_], _ => rfl)⟩
  have histof := ok_histof (P := l.prog) (w := w) (mg := mg) (base := base) (fun_mk (st := sHistoryOf) l4 c4 k4) (PySem.W.mg_of X G a4) HX mH MH we GH bHD rdH
  have lastof := ok_lastof (P := l.prog) (w := w) (mg := mg) (base := base) (fun_mk (st := sLastOf) l5 c5 k5) (PySem.W.mg_of X G a5) T
  have MFi : Meth K C "first" g9 := ⟨M9, (by unfold PySem.W.isFn; rw [T9]; rfl), N9⟩
  have MLa : Meth K C "last" g10 := ⟨M10, (by unfold PySem.W.isFn; rw [T10]; rfl), N10⟩
  have MBe : Meth K C "beginnings" g11 := ⟨M11, (by unfold PySem.W.isFn; rw [T11]; rfl), N11⟩
  have MJo : Meth K C "joined" g12 := ⟨M12, (by unfold PySem.W.isFn; rw [T12]; rfl), N12⟩
  have MTh : Meth K C "then_year" g13 := ⟨M13, (by unfold PySem.W.isFn; rw [T13]; rfl), N13⟩
  have MAg : Meth K C "agrees" g14 := ⟨M14, (by unfold PySem.W.isFn; rw [T14]; rfl), N14⟩
  have GF := ok_first (P := l.prog) (w := w) (mg := mg) (base := base) (fun_mk (st := sHistory_first) L9 D9 N9) HX whole histof oHL (PySem.W.mg_none_of X G z_len) EY
  have bF := (fun_mk (st := sHistory_first) L9 D9 N9).binds (ps := ["self", "years"]) (fun _ _ _ _ _ _ us hl => match us, hl with | [_, _], _ => rfl)
  have GL := ok_last (P := l.prog) (w := w) (mg := mg) (base := base) (fun_mk (st := sHistory_last) L10 D10 N10) HX whole histof lastof oHL (PySem.W.mg_none_of X G z_len) EY
  have bL := (fun_mk (st := sHistory_last) L10 D10 N10).binds (ps := ["self", "years"]) (fun _ _ _ _ _ _ us hl => match us, hl with | [_, _], _ => rfl)
  have GBe := ok_begin (P := l.prog) (w := w) (mg := mg) (base := base) (fun_mk (st := sHistory_beginnings) L11 D11 N11) HX MFi GF bF oHL (PySem.W.mg_none_of X G z_len) (PySem.W.mg_none_of X G z_range)
  have bBe := (fun_mk (st := sHistory_beginnings) L11 D11 N11).binds (ps := ["self"]) (fun _ _ _ _ _ _ us hl => match us, hl with | [_], _ => rfl)
  have GJo := ok_joined (P := l.prog) (w := w) (mg := mg) (base := base) (fun_mk (st := sHistory_joined) L12 D12 N12) HX KX oE uACK OO long histof EB
  have bJo := (fun_mk (st := sHistory_joined) L12 D12 N12).binds (ps := ["self", "other"]) (fun _ _ _ _ _ _ us hl => match us, hl with | [_, _], _ => rfl)
  obtain ⟨fyo, dyo, Gyo, myo, kyo, byo⟩ : ∃ (f : Addr) (fd : FuncData), FnOk l.prog w K mg base (_root_.L2.CX l.prog w) 3 f fd ["kinds", "index", "year"] (spYearOf K CK CB) ∧ mg "_year_of" = some (.ref f) ∧ PySem.W.keepIn K (.ref f) = true ∧ Binds K fd ["kinds", "index", "year"] [] := ⟨_, _, yearof, PySem.W.mg_of X G a7, k7, bY⟩
  have GTh := ok_then (P := l.prog) (w := w) (mg := mg) (base := base) (fB := g1) (fdB := dyo) (fun_mk (st := sHistory_then_year) L13 D13 N13) HX long histof oHL (PySem.W.mg_none_of X G z_len) Gyo myo kyo byo
  have GAg := ok_agrees (P := l.prog) (w := w) (mg := mg) (base := base) (fun_mk (st := sHistory_agrees) L14 D14 N14) HX KX Mh oE uACK OO whole lastof oHL (PySem.W.mg_none_of X G z_len) EY
  have bAg := (fun_mk (st := sHistory_agrees) L14 D14 N14).binds (ps := ["self", "other", "years"]) (fun _ _ _ _ _ _ us hl => match us, hl with | [_, _, _], _ => rfl)
  have odd := ok_odd2 (P := l.prog) (w := w) (mg := mg) (base := base) (fun_mk (st := sOdd) l14 c14 k14) (PySem.W.mg_of X G a14) word one
  have lkinds := ok_lkinds (P := l.prog) (w := w) (mg := mg) (base := base) (fun_mk (st := sLKinds) l15 c15 k15) (PySem.W.mg_of X G a15) T draw word
  have pers := ok_persons (P := l.prog) (w := w) (mg := mg) (base := base) (fun_mk (st := sLPersons) l19 c19 k19) (PySem.W.mg_of X G a19) T draw word one
  have made := ok_made (P := l.prog) (w := w) (mg := mg) (base := base) (fun_mk (st := sLMadeDeed) l16 c16 k16) (PySem.W.mg_of X G a16) T one
  have oddd := ok_odddeed (P := l.prog) (w := w) (mg := mg) (base := base) (fun_mk (st := sLOddDeed) l17 c17 k17) (PySem.W.mg_of X G a17) T B draw one odd made
  have ldeed := ok_ldeed (P := l.prog) (w := w) (mg := mg) (base := base) (fun_mk (st := sLDeedDue) l18 c18 k18) (PySem.W.mg_of X G a18) T B llab
  have told := ok_told (P := l.prog) (w := w) (mg := mg) (base := base) (fun_mk (st := sLToldYears) l20 c20 k20) (PySem.W.mg_of X G a20) T draw made
  have tups := ok_tuples (P := l.prog) (w := w) (mg := mg) (base := base) (fun_mk (st := sLTuples) l21 c21 k21) (PySem.W.mg_of X G a21) B
  have lagree := ok_lagree (P := l.prog) (w := w) (mg := mg) (base := base) (fun_mk (st := sLAgree) l22 c22 k22) (PySem.W.mg_of X G a22) B HX MAg GAg bAg EY xCY EO
  have ljoin := ok_ljoined (P := l.prog) (w := w) (mg := mg) (base := base) (fun_mk (st := sLJoined) l23 c23 k23) (PySem.W.mg_of X G a23) B HX MJo GJo bJo EO
  have llong := ok_llonger (P := l.prog) (w := w) (mg := mg) (base := base) (fun_mk (st := sLLonger) l24 c24 k24) (PySem.W.mg_of X G a24) T HX MTh GTh EB xCB
  have lsame := ok_same (P := l.prog) (w := w) (mg := mg) (base := base) (fun_mk (st := sLSameEnds) l25 c25 k25) (PySem.W.mg_of X G a25) T
  have lcuts := ok_cuts (P := l.prog) (w := w) (mg := mg) (base := base) (fun_mk (st := sLCutsHold) l26 c26 k26) (PySem.W.mg_of X G a26) HX T MFi GF bF MLa GL bL MBe GBe bBe
  have A : All4 l.prog w K mg base C CK CB CKB CO CY ed g3 g15 g14 g12 g13 g4 g7 _ _ _ _ _ _ [Value.ref ed] := { hand := hand, draw := draw, one := one, kinds := lkinds, persons := pers, made := made, odd := oddd, deed := ldeed, told := told, tuples := tups, agree := lagree, joined := ljoin, longer := llong, same := lsame, cuts := lcuts, KX := KX, HX := HX, mK := mK, mH := mH, MK := MK, GK := GK, bK := bK, MH := MH, GH := GH, bH := bH, bD := bHD, rd := rdH, we := we, EK := oE, EH := oHE, neK := uACK, neH := uAC, nf := uCC, nfK := uCCK, MA := MAg, GA := GAg, bA := bAg, MJ := MJo, GJ := GJo, bJ := bJo, MT := MTh, GT := GTh }
  exact law_at (fun_mk (st := sLaw) l27 c27 k27) scLaw ⟨rfl, by decide, by decide⟩ (law_body T B R A) (fun s v => .of_eq rfl) e0 hS hn
end Kx

set_option maxHeartbeats 8000000
namespace Kx
open PySem PySem.W PySem.Calls PyProof.Rows
abbrev hR : OpenRow := OpenLaw.row PySem.Challenge.rw_searchback_k04_whole_ends_beginnings_and
abbrev hq : Program := view hR.prog [46]
def hnames0 : List PySem.Str := ["_wall", "SearchError", "BadKinds", "BadHistory", "BadYears", "OtherKinds", "LONGEST_LABEL", "is_whole", "is_label", "is_sequence", "MOST_KINDS", "MOST_ARITY", "YEAR", "Kinds", "_row_fault", "MOST_YEARS", "MOST_DEEDS", "History", "history_of", "_last_of", "_is_too_long", "_year_of", "_law_mix", "_law_hand", "_law_draw"]
def hnames1 : List PySem.Str := ["_law_one", "_law_word", "_law_kinds", "_law_made_deed", "_law_persons", "_law_odd_deed", "_law_odd", "_law_label", "_law_deed_due", "_law_told_years", "_law_tuples", "_law_agree", "_law_joined", "_law_longer", "_law_same_ends", "_law_cuts_hold"]
def hnames : List PySem.Str := hnames0 ++ hnames1

def kob (as : List Addr) (s : SharedT) : List (Option Obj) := as.map (HandSHeadRun.getT s)
set_option maxHeartbeats 0 in
theorem head_k (K : Params → Frag) (as : List Addr) (e : ∀ P, as = (K P).map (·.1)) (run : ∀ w, HandSHeadRun.RunEq hR hq (kHook K as e) (kob as) 12000 hnames w) (k1 : hR.wellSaid = true) (hw : hR.toRowW.promised)
    (call : WalkO hq hnames (XL hq []) (kHook K as e).says hR.toRowW (HandSHeadRun.topDef hR.prog 46) [] fun f vs => PySem.call f vs) : hR.Holds :=
  HandSHeadRun.head_any (r := hR) (q := hq) (H := kHook K as e) (ob := kob as) (M := 12000) (loose := hnames) (d := HandSHeadRun.topDef hR.prog 46) (kwd := []) (fun s => congrArg (fun g => as.map g) (funext (HandSHeadRun.getT_eq s)))
    (by kernel_rfl) (fun s => by kernel_rfl) run (by kernel_rfl) (by kernel_rfl) (by kernel_rfl) (by rfl) k1 (by decide +kernel) ⟨rfl, rfl, rfl, rfl, rfl, by decide +kernel⟩ hw call
end Kx
open PySem PySem.W PyProof.Rows
local macro_rules
  | `(tactic| o_head ($_:ident $K:term $a:term $e:term)) => `(tactic| refine Kx.head_k $K $a $e (fun w => (by intro os; kernel_rfl)) (by first | assumption | decide +kernel) ?hw ?hc)
set_option maxRecDepth 100000 in
set_option maxHeartbeats 0 in
theorem PySem.Challenge.cw_searchback_k04_whole_ends_beginnings_and_holds : PySem.Challenge.rw_searchback_k04_whole_ends_beginnings_and.Holds := by
  w_on; o_law; k_head; (case hw => w_witness2)
  k_fill
  refine Kx.law_walk (l := PySem.Challenge.rw_searchback_k04_whole_ends_beginnings_and) rfl (by kernel_rfl) (fun w h Y => PySem.W.kIn_of Y) ?F
  case F =>
    intro w mg fa h KX G hmg0
    have hmg : mg ("law" : PySem.Str) = some (.ref fa) := by
      have e : (HandSHeadRun.topDef Kx.hR.prog 46).name = ("law" : PySem.Str) := by kernel_rfl
      rw [← e]
      exact hmg0
    refine' Kx.all_mk KX G hmg ?a0 ?l0 ?c0 ?k0 ?a1 ?l1 ?c1 ?k1 ?a2 ?l2 ?c2 ?k2 ?a3 ?l3 ?c3 ?k3 ?a4 ?l4 ?c4 ?k4 ?a5 ?l5 ?c5 ?k5 ?a6 ?l6 ?c6 ?k6 ?a7 ?l7 ?c7 ?k7 ?a8 ?l8 ?c8 ?k8 ?a9 ?l9 ?c9 ?k9 ?a10 ?l10 ?c10 ?k10 ?a11 ?l11 ?c11 ?k11 ?a12 ?l12 ?c12 ?k12 ?a13 ?l13 ?c13 ?k13 ?a14 ?l14 ?c14 ?k14 ?a15 ?l15 ?c15 ?k15 ?a16 ?l16 ?c16 ?k16 ?a17 ?l17 ?c17 ?k17 ?a18 ?l18 ?c18 ?k18 ?a19 ?l19 ?c19 ?k19 ?a20 ?l20 ?c20 ?k20 ?a21 ?l21 ?c21 ?k21 ?a22 ?l22 ?c22 ?k22 ?a23 ?l23 ?c23 ?k23 ?a24 ?l24 ?c24 ?k24 ?a25 ?l25 ?c25 ?k25 ?a26 ?l26 ?c26 ?k26 ?a27 ?l27 ?c27 ?k27 ?mC ?mCK ?mCB ?mCKB ?mCY ?mCO ?mCS ?M0 ?L0 ?D0 ?N0 ?T0 ?M1 ?L1 ?D1 ?N1 ?T1 ?M2 ?L2 ?D2 ?N2 ?T2 ?M3 ?L3 ?D3 ?N3 ?T3 ?M4 ?L4 ?D4 ?N4 ?T4 ?M5 ?L5 ?D5 ?N5 ?T5 ?M6 ?L6 ?D6 ?N6 ?T6 ?M7 ?L7 ?D7 ?N7 ?T7 ?M8 ?L8 ?D8 ?N8 ?T8 ?M9 ?L9 ?D9 ?N9 ?T9 ?M10 ?L10 ?D10 ?N10 ?T10 ?M11 ?L11 ?D11 ?N11 ?T11 ?M12 ?L12 ?D12 ?N12 ?T12 ?M13 ?L13 ?D13 ?N13 ?T13 ?M14 ?L14 ?D14 ?N14 ?T14 ?M15 ?L15 ?D15 ?N15 ?T15 ?H1 ?H2 ?u1C ?u2C ?u3C ?u4C ?u5C_kinds ?u5C_years ?u6C ?u7C ?u8C ?u9C ?uAC ?uCC ?wC_NoneType ?wC_list ?wC_str ?wC_tuple ?u1CK ?u2CK ?u3CK ?u4CK ?u5CK_rows ?u5CK_names ?u5CK__arities ?u6CK ?u7CK ?u8CK ?u9CK ?uACK ?uCCK ?wCK_NoneType ?wCK_list ?wCK_str ?wCK_tuple ?q1 ?q2 ?nCB_year ?nCB_index ?nCB_what ?nCKB_index ?nCKB_what ?nCY_years ?xCB ?xCY ?xCO ?xOY ?wOS ?eO1 ?eO2 ?eO3 ?eO4 ?eO5 ?eO6 ?eO7 ?eO8 ?eO9 ?y2 ?y3 ?y4 ?y5 ?y6 ?y7 ?o1CB ?o2CB ?o3CB ?o4CB ?o5CB ?o6CB ?o7CB ?o8CB ?o1CKB ?o2CKB ?o3CKB ?o4CKB ?o5CKB ?o6CKB ?o7CKB ?o8CKB ?o1CY ?o2CY ?o3CY ?o4CY ?o5CY ?o6CY ?o7CY ?o8CY ?z_int ?z_abs ?z_len ?z_enumerate ?z_range ?z_isinstance ?z_str ?z_bool ?z_list ?z_tuple ?z_sum ?z_repr ?z_max
    (case a0 => first | k_is | exact rfl | kernel_rfl | decide +kernel)
    (case l0 => first | k_is | exact rfl | kernel_rfl | decide +kernel)
    (case c0 => first | k_is | exact rfl | kernel_rfl | decide +kernel)
    (case k0 => first | k_is | exact rfl | kernel_rfl | decide +kernel)
    (case a1 => first | k_is | exact rfl | kernel_rfl | decide +kernel)
    (case l1 => first | k_is | exact rfl | kernel_rfl | decide +kernel)
    (case c1 => first | k_is | exact rfl | kernel_rfl | decide +kernel)
    (case k1 => first | k_is | exact rfl | kernel_rfl | decide +kernel)
    (case a2 => first | k_is | exact rfl | kernel_rfl | decide +kernel)
    (case l2 => first | k_is | exact rfl | kernel_rfl | decide +kernel)
    (case c2 => first | k_is | exact rfl | kernel_rfl | decide +kernel)
    (case k2 => first | k_is | exact rfl | kernel_rfl | decide +kernel)
    (case a3 => first | k_is | exact rfl | kernel_rfl | decide +kernel)
    (case l3 => first | k_is | exact rfl | kernel_rfl | decide +kernel)
    (case c3 => first | k_is | exact rfl | kernel_rfl | decide +kernel)
    (case k3 => first | k_is | exact rfl | kernel_rfl | decide +kernel)
    (case a4 => first | k_is | exact rfl | kernel_rfl | decide +kernel)
    (case l4 => first | k_is | exact rfl | kernel_rfl | decide +kernel)
    (case c4 => first | k_is | exact rfl | kernel_rfl | decide +kernel)
    (case k4 => first | k_is | exact rfl | kernel_rfl | decide +kernel)
    (case a5 => first | k_is | exact rfl | kernel_rfl | decide +kernel)
    (case l5 => first | k_is | exact rfl | kernel_rfl | decide +kernel)
    (case c5 => first | k_is | exact rfl | kernel_rfl | decide +kernel)
    (case k5 => first | k_is | exact rfl | kernel_rfl | decide +kernel)
    (case a6 => first | k_is | exact rfl | kernel_rfl | decide +kernel)
    (case l6 => first | k_is | exact rfl | kernel_rfl | decide +kernel)
    (case c6 => first | k_is | exact rfl | kernel_rfl | decide +kernel)
    (case k6 => first | k_is | exact rfl | kernel_rfl | decide +kernel)
    (case a7 => first | k_is | exact rfl | kernel_rfl | decide +kernel)
    (case l7 => first | k_is | exact rfl | kernel_rfl | decide +kernel)
    (case c7 => first | k_is | exact rfl | kernel_rfl | decide +kernel)
    (case k7 => first | k_is | exact rfl | kernel_rfl | decide +kernel)
    (case a8 => first | k_is | exact rfl | kernel_rfl | decide +kernel)
    (case l8 => first | k_is | exact rfl | kernel_rfl | decide +kernel)
    (case c8 => first | k_is | exact rfl | kernel_rfl | decide +kernel)
    (case k8 => first | k_is | exact rfl | kernel_rfl | decide +kernel)
    (case a9 => first | k_is | exact rfl | kernel_rfl | decide +kernel)
    (case l9 => first | k_is | exact rfl | kernel_rfl | decide +kernel)
    (case c9 => first | k_is | exact rfl | kernel_rfl | decide +kernel)
    (case k9 => first | k_is | exact rfl | kernel_rfl | decide +kernel)
    (case a10 => first | k_is | exact rfl | kernel_rfl | decide +kernel)
    (case l10 => first | k_is | exact rfl | kernel_rfl | decide +kernel)
    (case c10 => first | k_is | exact rfl | kernel_rfl | decide +kernel)
    (case k10 => first | k_is | exact rfl | kernel_rfl | decide +kernel)
    (case a11 => first | k_is | exact rfl | kernel_rfl | decide +kernel)
    (case l11 => first | k_is | exact rfl | kernel_rfl | decide +kernel)
    (case c11 => first | k_is | exact rfl | kernel_rfl | decide +kernel)
    (case k11 => first | k_is | exact rfl | kernel_rfl | decide +kernel)
    (case a12 => first | k_is | exact rfl | kernel_rfl | decide +kernel)
    (case l12 => first | k_is | exact rfl | kernel_rfl | decide +kernel)
    (case c12 => first | k_is | exact rfl | kernel_rfl | decide +kernel)
    (case k12 => first | k_is | exact rfl | kernel_rfl | decide +kernel)
    (case a13 => first | k_is | exact rfl | kernel_rfl | decide +kernel)
    (case l13 => first | k_is | exact rfl | kernel_rfl | decide +kernel)
    (case c13 => first | k_is | exact rfl | kernel_rfl | decide +kernel)
    (case k13 => first | k_is | exact rfl | kernel_rfl | decide +kernel)
    (case a14 => first | k_is | exact rfl | kernel_rfl | decide +kernel)
    (case l14 => first | k_is | exact rfl | kernel_rfl | decide +kernel)
    (case c14 => first | k_is | exact rfl | kernel_rfl | decide +kernel)
    (case k14 => first | k_is | exact rfl | kernel_rfl | decide +kernel)
    (case a15 => first | k_is | exact rfl | kernel_rfl | decide +kernel)
    (case l15 => first | k_is | exact rfl | kernel_rfl | decide +kernel)
    (case c15 => first | k_is | exact rfl | kernel_rfl | decide +kernel)
    (case k15 => first | k_is | exact rfl | kernel_rfl | decide +kernel)
    (case a16 => first | k_is | exact rfl | kernel_rfl | decide +kernel)
    (case l16 => first | k_is | exact rfl | kernel_rfl | decide +kernel)
    (case c16 => first | k_is | exact rfl | kernel_rfl | decide +kernel)
    (case k16 => first | k_is | exact rfl | kernel_rfl | decide +kernel)
    (case a17 => first | k_is | exact rfl | kernel_rfl | decide +kernel)
    (case l17 => first | k_is | exact rfl | kernel_rfl | decide +kernel)
    (case c17 => first | k_is | exact rfl | kernel_rfl | decide +kernel)
    (case k17 => first | k_is | exact rfl | kernel_rfl | decide +kernel)
    (case a18 => first | k_is | exact rfl | kernel_rfl | decide +kernel)
    (case l18 => first | k_is | exact rfl | kernel_rfl | decide +kernel)
    (case c18 => first | k_is | exact rfl | kernel_rfl | decide +kernel)
    (case k18 => first | k_is | exact rfl | kernel_rfl | decide +kernel)
    (case a19 => first | k_is | exact rfl | kernel_rfl | decide +kernel)
    (case l19 => first | k_is | exact rfl | kernel_rfl | decide +kernel)
    (case c19 => first | k_is | exact rfl | kernel_rfl | decide +kernel)
    (case k19 => first | k_is | exact rfl | kernel_rfl | decide +kernel)
    (case a20 => first | k_is | exact rfl | kernel_rfl | decide +kernel)
    (case l20 => first | k_is | exact rfl | kernel_rfl | decide +kernel)
    (case c20 => first | k_is | exact rfl | kernel_rfl | decide +kernel)
    (case k20 => first | k_is | exact rfl | kernel_rfl | decide +kernel)
    (case a21 => first | k_is | exact rfl | kernel_rfl | decide +kernel)
    (case l21 => first | k_is | exact rfl | kernel_rfl | decide +kernel)
    (case c21 => first | k_is | exact rfl | kernel_rfl | decide +kernel)
    (case k21 => first | k_is | exact rfl | kernel_rfl | decide +kernel)
    (case a22 => first | k_is | exact rfl | kernel_rfl | decide +kernel)
    (case l22 => first | k_is | exact rfl | kernel_rfl | decide +kernel)
    (case c22 => first | k_is | exact rfl | kernel_rfl | decide +kernel)
    (case k22 => first | k_is | exact rfl | kernel_rfl | decide +kernel)
    (case a23 => first | k_is | exact rfl | kernel_rfl | decide +kernel)
    (case l23 => first | k_is | exact rfl | kernel_rfl | decide +kernel)
    (case c23 => first | k_is | exact rfl | kernel_rfl | decide +kernel)
    (case k23 => first | k_is | exact rfl | kernel_rfl | decide +kernel)
    (case a24 => first | k_is | exact rfl | kernel_rfl | decide +kernel)
    (case l24 => first | k_is | exact rfl | kernel_rfl | decide +kernel)
    (case c24 => first | k_is | exact rfl | kernel_rfl | decide +kernel)
    (case k24 => first | k_is | exact rfl | kernel_rfl | decide +kernel)
    (case a25 => first | k_is | exact rfl | kernel_rfl | decide +kernel)
    (case l25 => first | k_is | exact rfl | kernel_rfl | decide +kernel)
    (case c25 => first | k_is | exact rfl | kernel_rfl | decide +kernel)
    (case k25 => first | k_is | exact rfl | kernel_rfl | decide +kernel)
    (case a26 => first | k_is | exact rfl | kernel_rfl | decide +kernel)
    (case l26 => first | k_is | exact rfl | kernel_rfl | decide +kernel)
    (case c26 => first | k_is | exact rfl | kernel_rfl | decide +kernel)
    (case k26 => first | k_is | exact rfl | kernel_rfl | decide +kernel)
    (case a27 => first | k_is | exact rfl | kernel_rfl | decide +kernel)
    (case l27 => first | k_is | exact rfl | kernel_rfl | decide +kernel)
    (case c27 => first | k_is | exact rfl | kernel_rfl | decide +kernel)
    (case k27 => first | k_is | exact rfl | kernel_rfl | decide +kernel)
    (case mC => first | k_is | exact rfl | kernel_rfl | decide +kernel)
    (case mCK => first | k_is | exact rfl | kernel_rfl | decide +kernel)
    (case mCB => first | k_is | exact rfl | kernel_rfl | decide +kernel)
    (case mCKB => first | k_is | exact rfl | kernel_rfl | decide +kernel)
    (case mCY => first | k_is | exact rfl | kernel_rfl | decide +kernel)
    (case mCO => first | k_is | exact rfl | kernel_rfl | decide +kernel)
    (case mCS => first | k_is | exact rfl | kernel_rfl | decide +kernel)
    (case M0 => first | k_is | exact rfl | kernel_rfl | decide +kernel)
    (case L0 => first | k_is | exact rfl | kernel_rfl | decide +kernel)
    (case D0 => first | k_is | exact rfl | kernel_rfl | decide +kernel)
    (case N0 => first | k_is | exact rfl | kernel_rfl | decide +kernel)
    (case T0 => first | k_is | exact rfl | kernel_rfl | decide +kernel)
    (case M1 => first | k_is | exact rfl | kernel_rfl | decide +kernel)
    (case L1 => first | k_is | exact rfl | kernel_rfl | decide +kernel)
    (case D1 => first | k_is | exact rfl | kernel_rfl | decide +kernel)
    (case N1 => first | k_is | exact rfl | kernel_rfl | decide +kernel)
    (case T1 => first | k_is | exact rfl | kernel_rfl | decide +kernel)
    (case M2 => first | k_is | exact rfl | kernel_rfl | decide +kernel)
    (case L2 => first | k_is | exact rfl | kernel_rfl | decide +kernel)
    (case D2 => first | k_is | exact rfl | kernel_rfl | decide +kernel)
    (case N2 => first | k_is | exact rfl | kernel_rfl | decide +kernel)
    (case T2 => first | k_is | exact rfl | kernel_rfl | decide +kernel)
    (case M3 => first | k_is | exact rfl | kernel_rfl | decide +kernel)
    (case L3 => first | k_is | exact rfl | kernel_rfl | decide +kernel)
    (case D3 => first | k_is | exact rfl | kernel_rfl | decide +kernel)
    (case N3 => first | k_is | exact rfl | kernel_rfl | decide +kernel)
    (case T3 => first | k_is | exact rfl | kernel_rfl | decide +kernel)
    (case M4 => first | k_is | exact rfl | kernel_rfl | decide +kernel)
    (case L4 => first | k_is | exact rfl | kernel_rfl | decide +kernel)
    (case D4 => first | k_is | exact rfl | kernel_rfl | decide +kernel)
    (case N4 => first | k_is | exact rfl | kernel_rfl | decide +kernel)
    (case T4 => first | k_is | exact rfl | kernel_rfl | decide +kernel)
    (case M5 => first | k_is | exact rfl | kernel_rfl | decide +kernel)
    (case L5 => first | k_is | exact rfl | kernel_rfl | decide +kernel)
    (case D5 => first | k_is | exact rfl | kernel_rfl | decide +kernel)
    (case N5 => first | k_is | exact rfl | kernel_rfl | decide +kernel)
    (case T5 => first | k_is | exact rfl | kernel_rfl | decide +kernel)
    (case M6 => first | k_is | exact rfl | kernel_rfl | decide +kernel)
    (case L6 => first | k_is | exact rfl | kernel_rfl | decide +kernel)
    (case D6 => first | k_is | exact rfl | kernel_rfl | decide +kernel)
    (case N6 => first | k_is | exact rfl | kernel_rfl | decide +kernel)
    (case T6 => first | k_is | exact rfl | kernel_rfl | decide +kernel)
    (case M7 => first | k_is | exact rfl | kernel_rfl | decide +kernel)
    (case L7 => first | k_is | exact rfl | kernel_rfl | decide +kernel)
    (case D7 => first | k_is | exact rfl | kernel_rfl | decide +kernel)
    (case N7 => first | k_is | exact rfl | kernel_rfl | decide +kernel)
    (case T7 => first | k_is | exact rfl | kernel_rfl | decide +kernel)
    (case M8 => first | k_is | exact rfl | kernel_rfl | decide +kernel)
    (case L8 => first | k_is | exact rfl | kernel_rfl | decide +kernel)
    (case D8 => first | k_is | exact rfl | kernel_rfl | decide +kernel)
    (case N8 => first | k_is | exact rfl | kernel_rfl | decide +kernel)
    (case T8 => first | k_is | exact rfl | kernel_rfl | decide +kernel)
    (case M9 => first | k_is | exact rfl | kernel_rfl | decide +kernel)
    (case L9 => first | k_is | exact rfl | kernel_rfl | decide +kernel)
    (case D9 => first | k_is | exact rfl | kernel_rfl | decide +kernel)
    (case N9 => first | k_is | exact rfl | kernel_rfl | decide +kernel)
    (case T9 => first | k_is | exact rfl | kernel_rfl | decide +kernel)
    (case M10 => first | k_is | exact rfl | kernel_rfl | decide +kernel)
    (case L10 => first | k_is | exact rfl | kernel_rfl | decide +kernel)
    (case D10 => first | k_is | exact rfl | kernel_rfl | decide +kernel)
    (case N10 => first | k_is | exact rfl | kernel_rfl | decide +kernel)
    (case T10 => first | k_is | exact rfl | kernel_rfl | decide +kernel)
    (case M11 => first | k_is | exact rfl | kernel_rfl | decide +kernel)
    (case L11 => first | k_is | exact rfl | kernel_rfl | decide +kernel)
    (case D11 => first | k_is | exact rfl | kernel_rfl | decide +kernel)
    (case N11 => first | k_is | exact rfl | kernel_rfl | decide +kernel)
    (case T11 => first | k_is | exact rfl | kernel_rfl | decide +kernel)
    (case M12 => first | k_is | exact rfl | kernel_rfl | decide +kernel)
    (case L12 => first | k_is | exact rfl | kernel_rfl | decide +kernel)
    (case D12 => first | k_is | exact rfl | kernel_rfl | decide +kernel)
    (case N12 => first | k_is | exact rfl | kernel_rfl | decide +kernel)
    (case T12 => first | k_is | exact rfl | kernel_rfl | decide +kernel)
    (case M13 => first | k_is | exact rfl | kernel_rfl | decide +kernel)
    (case L13 => first | k_is | exact rfl | kernel_rfl | decide +kernel)
    (case D13 => first | k_is | exact rfl | kernel_rfl | decide +kernel)
    (case N13 => first | k_is | exact rfl | kernel_rfl | decide +kernel)
    (case T13 => first | k_is | exact rfl | kernel_rfl | decide +kernel)
    (case M14 => first | k_is | exact rfl | kernel_rfl | decide +kernel)
    (case L14 => first | k_is | exact rfl | kernel_rfl | decide +kernel)
    (case D14 => first | k_is | exact rfl | kernel_rfl | decide +kernel)
    (case N14 => first | k_is | exact rfl | kernel_rfl | decide +kernel)
    (case T14 => first | k_is | exact rfl | kernel_rfl | decide +kernel)
    (case M15 => first | k_is | exact rfl | kernel_rfl | decide +kernel)
    (case L15 => first | k_is | exact rfl | kernel_rfl | decide +kernel)
    (case D15 => first | k_is | exact rfl | kernel_rfl | decide +kernel)
    (case N15 => first | k_is | exact rfl | kernel_rfl | decide +kernel)
    (case T15 => first | k_is | exact rfl | kernel_rfl | decide +kernel)
    (case H1 => first | k_is | exact rfl | kernel_rfl | decide +kernel)
    (case H2 => first | k_is | exact rfl | kernel_rfl | decide +kernel)
    (case u1C => first | k_is | exact rfl | kernel_rfl | decide +kernel)
    (case u2C => first | k_is | exact rfl | kernel_rfl | decide +kernel)
    (case u3C => first | k_is | exact rfl | kernel_rfl | decide +kernel)
    (case u4C => first | k_is | exact rfl | kernel_rfl | decide +kernel)
    (case u5C_kinds => first | k_is | exact rfl | kernel_rfl | decide +kernel)
    (case u5C_years => first | k_is | exact rfl | kernel_rfl | decide +kernel)
    (case u6C => first | k_is | exact rfl | kernel_rfl | decide +kernel)
    (case u7C => first | k_is | exact rfl | kernel_rfl | decide +kernel)
    (case u8C => first | k_is | exact rfl | kernel_rfl | decide +kernel)
    (case u9C => first | k_is | exact rfl | kernel_rfl | decide +kernel)
    (case uAC => first | k_is | exact rfl | kernel_rfl | decide +kernel)
    (case uCC => first | k_is | exact rfl | kernel_rfl | decide +kernel)
    (case wC_NoneType => first | exact rfl | kernel_rfl | decide +kernel)
    (case wC_list => first | exact rfl | kernel_rfl | decide +kernel)
    (case wC_str => first | exact rfl | kernel_rfl | decide +kernel)
    (case wC_tuple => first | exact rfl | kernel_rfl | decide +kernel)
    (case u1CK => first | k_is | exact rfl | kernel_rfl | decide +kernel)
    (case u2CK => first | k_is | exact rfl | kernel_rfl | decide +kernel)
    (case u3CK => first | k_is | exact rfl | kernel_rfl | decide +kernel)
    (case u4CK => first | k_is | exact rfl | kernel_rfl | decide +kernel)
    (case u5CK_rows => first | k_is | exact rfl | kernel_rfl | decide +kernel)
    (case u5CK_names => first | k_is | exact rfl | kernel_rfl | decide +kernel)
    (case u5CK__arities => first | k_is | exact rfl | kernel_rfl | decide +kernel)
    (case u6CK => first | k_is | exact rfl | kernel_rfl | decide +kernel)
    (case u7CK => first | k_is | exact rfl | kernel_rfl | decide +kernel)
    (case u8CK => first | k_is | exact rfl | kernel_rfl | decide +kernel)
    (case u9CK => first | k_is | exact rfl | kernel_rfl | decide +kernel)
    (case uACK => first | k_is | exact rfl | kernel_rfl | decide +kernel)
    (case uCCK => first | k_is | exact rfl | kernel_rfl | decide +kernel)
    (case wCK_NoneType => first | exact rfl | kernel_rfl | decide +kernel)
    (case wCK_list => first | exact rfl | kernel_rfl | decide +kernel)
    (case wCK_str => first | exact rfl | kernel_rfl | decide +kernel)
    (case wCK_tuple => first | exact rfl | kernel_rfl | decide +kernel)
    (case q1 => first | k_is | exact rfl | kernel_rfl | decide +kernel)
    (case q2 => first | k_is | exact rfl | kernel_rfl | decide +kernel)
    (case nCB_year => first | k_is | exact rfl | kernel_rfl | decide +kernel)
    (case nCB_index => first | k_is | exact rfl | kernel_rfl | decide +kernel)
    (case nCB_what => first | k_is | exact rfl | kernel_rfl | decide +kernel)
    (case nCKB_index => first | k_is | exact rfl | kernel_rfl | decide +kernel)
    (case nCKB_what => first | k_is | exact rfl | kernel_rfl | decide +kernel)
    (case nCY_years => first | k_is | exact rfl | kernel_rfl | decide +kernel)
    (case xCB => first | exact rfl | kernel_rfl | decide +kernel)
    (case xCY => first | exact rfl | kernel_rfl | decide +kernel)
    (case xCO => first | exact rfl | kernel_rfl | decide +kernel)
    (case xOY => first | exact rfl | kernel_rfl | decide +kernel)
    (case wOS => first | exact rfl | kernel_rfl | decide +kernel)
    (case eO1 => first | exact rfl | kernel_rfl | decide +kernel)
    (case eO2 => first | exact rfl | kernel_rfl | decide +kernel)
    (case eO3 => first | exact rfl | kernel_rfl | decide +kernel)
    (case eO4 => first | exact rfl | kernel_rfl | decide +kernel)
    (case eO5 => first | exact rfl | kernel_rfl | decide +kernel)
    (case eO6 => first | exact rfl | kernel_rfl | decide +kernel)
    (case eO7 => first | exact rfl | kernel_rfl | decide +kernel)
    (case eO8 => first | exact rfl | kernel_rfl | decide +kernel)
    (case eO9 => first | exact rfl | kernel_rfl | decide +kernel)
    (case y2 => first | k_is | exact rfl | kernel_rfl | decide +kernel)
    (case y3 => first | k_is | exact rfl | kernel_rfl | decide +kernel)
    (case y4 => first | k_is | exact rfl | kernel_rfl | decide +kernel)
    (case y5 => first | k_is | exact rfl | kernel_rfl | decide +kernel)
    (case y6 => first | k_is | exact rfl | kernel_rfl | decide +kernel)
    (case y7 => first | k_is | exact rfl | kernel_rfl | decide +kernel)
    (case o1CB => exact ⟨_, _, _, _, _, _, _, _, _, _, _, _, _, _, _, rfl, rfl⟩)
    (case o2CB => first | k_is | exact rfl | kernel_rfl | decide +kernel)
    (case o3CB => first | k_is | exact rfl | kernel_rfl | decide +kernel)
    (case o4CB => first | k_is | exact rfl | kernel_rfl | decide +kernel)
    (case o5CB => first | k_is | exact rfl | kernel_rfl | decide +kernel)
    (case o6CB => first | k_is | exact rfl | kernel_rfl | decide +kernel)
    (case o7CB => first | k_is | exact rfl | kernel_rfl | decide +kernel)
    (case o8CB => first | k_is | exact rfl | kernel_rfl | decide +kernel)
    (case o1CKB => exact ⟨_, _, _, _, _, _, _, _, _, _, _, _, _, _, _, rfl, rfl⟩)
    (case o2CKB => first | k_is | exact rfl | kernel_rfl | decide +kernel)
    (case o3CKB => first | k_is | exact rfl | kernel_rfl | decide +kernel)
    (case o4CKB => first | k_is | exact rfl | kernel_rfl | decide +kernel)
    (case o5CKB => first | k_is | exact rfl | kernel_rfl | decide +kernel)
    (case o6CKB => first | k_is | exact rfl | kernel_rfl | decide +kernel)
    (case o7CKB => first | k_is | exact rfl | kernel_rfl | decide +kernel)
    (case o8CKB => first | k_is | exact rfl | kernel_rfl | decide +kernel)
    (case o1CY => exact ⟨_, _, _, _, _, _, _, _, _, _, _, _, _, _, _, rfl, rfl⟩)
    (case o2CY => first | k_is | exact rfl | kernel_rfl | decide +kernel)
    (case o3CY => first | k_is | exact rfl | kernel_rfl | decide +kernel)
    (case o4CY => first | k_is | exact rfl | kernel_rfl | decide +kernel)
    (case o5CY => first | k_is | exact rfl | kernel_rfl | decide +kernel)
    (case o6CY => first | k_is | exact rfl | kernel_rfl | decide +kernel)
    (case o7CY => first | k_is | exact rfl | kernel_rfl | decide +kernel)
    (case o8CY => first | k_is | exact rfl | kernel_rfl | decide +kernel)
    (case z_int => first | k_is | exact rfl | kernel_rfl | decide +kernel)
    (case z_abs => first | k_is | exact rfl | kernel_rfl | decide +kernel)
    (case z_len => first | k_is | exact rfl | kernel_rfl | decide +kernel)
    (case z_enumerate => first | k_is | exact rfl | kernel_rfl | decide +kernel)
    (case z_range => first | k_is | exact rfl | kernel_rfl | decide +kernel)
    (case z_isinstance => first | k_is | exact rfl | kernel_rfl | decide +kernel)
    (case z_str => first | k_is | exact rfl | kernel_rfl | decide +kernel)
    (case z_bool => first | k_is | exact rfl | kernel_rfl | decide +kernel)
    (case z_list => first | k_is | exact rfl | kernel_rfl | decide +kernel)
    (case z_tuple => first | k_is | exact rfl | kernel_rfl | decide +kernel)
    (case z_sum => first | k_is | exact rfl | kernel_rfl | decide +kernel)
    (case z_repr => first | k_is | exact rfl | kernel_rfl | decide +kernel)
    (case z_max => first | k_is | exact rfl | kernel_rfl | decide +kernel)

