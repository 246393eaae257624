import PyProof.Rows.All
import Wide.All
import OpenK.AllK
import Wide.FinOn
import HandS.ForMost
import HandS.Wide
import HandS.Codes
import HandS.Exc
import HandS.TryOnly
import HandS.ExcOwn
import HandS.WordsExc
import HandS.ExcInit
import HandS.ExcField
import HandS.IsInst
import HandS.StrMore
import HandS.Style
import KE.GoesMore
import KE.GoesEnum
import HandS.More
import HandS.IterVal
import KE.KOwnIter
import HandS.Conv
import KE.KDictSum
import HandS.Walk
import PyProof.ReprBulk
import PyProof.ReprRoads
import HandS.ExcIs
import KE.GoesComp
import KE.KExcHit
import HandS.TupAny
import HandS.Defaults
import HandS.Property
import HandS.WordsDict
import HandS.MakeKwOnly
import HandS.Star
import HandS.Zip
import KE.KStateDown
import HandS.Head0
import HandS.Head1
import HandS.Head2
import PySem.Challenge.RW_searchback_k38_whole_years_let_and_abstr
set_option Elab.async false
set_option maxRecDepth 100000
namespace Kx
open PySem L2
def top (i : Nat) : Stmt := PySem.Challenge.pw_searchback_k38_whole_years_let_and_abstr.main.body.getD i (.Pass ⟨0, 0, 0, 0⟩)
abbrev sWall : Stmt := top 0 -- _wall(k)
abbrev sBadKinds_init : Stmt := inClass (top 3) 0 -- BadKinds.__init__
abbrev sBadHistory_init : Stmt := inClass (top 4) 0 -- BadHistory.__init__
abbrev sBadYears_init : Stmt := inClass (top 5) 0 -- BadYears.__init__
abbrev sBadEntry_init : Stmt := inClass (top 7) 0 -- BadEntry.__init__
abbrev sBadAbstract_init : Stmt := inClass (top 8) 0 -- BadAbstract.__init__
abbrev sWhole : Stmt := top 11 -- is_whole(thing, low, high)
abbrev sLabel : Stmt := top 12 -- is_label(thing)
abbrev sSeq : Stmt := top 13 -- is_sequence(thing)
abbrev sEntry_init : Stmt := inClass (top 15) 0 -- Entry.__init__
abbrev sEntry_lets : Stmt := inClass (top 15) 1 -- Entry.lets
abbrev sKnown_init : Stmt := inClass (top 16) 0 -- Known.__init__
abbrev sKnown_eq : Stmt := inClass (top 16) 1 -- Known.__eq__
abbrev sKnown_free : Stmt := inClass (top 16) 2 -- Known.free
abbrev sWithout_init : Stmt := inClass (top 17) 0 -- Without.__init__
abbrev sWithout_eq : Stmt := inClass (top 17) 1 -- Without.__eq__
abbrev sWithout_free : Stmt := inClass (top 17) 2 -- Without.free
abbrev sUnknown_init : Stmt := inClass (top 18) 0 -- Unknown.__init__
abbrev sUnknown_eq : Stmt := inClass (top 18) 1 -- Unknown.__eq__
abbrev sUnknown_free : Stmt := inClass (top 18) 2 -- Unknown.free
abbrev sNoted_init : Stmt := inClass (top 19) 0 -- Noted.__init__
abbrev sNoted_eq : Stmt := inClass (top 19) 1 -- Noted.__eq__
abbrev sNoted_free : Stmt := inClass (top 19) 2 -- Noted.free
abbrev sHolding_init : Stmt := inClass (top 20) 0 -- Holding.__init__
abbrev sHolding_eq : Stmt := inClass (top 20) 1 -- Holding.__eq__
abbrev sHolding_free : Stmt := inClass (top 20) 2 -- Holding.free
abbrev sEntryWithin : Stmt := top 21 -- entry_within(kinds, one, other)
abbrev sKindNames : Stmt := top 22 -- _kind_names(names)
abbrev sToldDeeds : Stmt := top 23 -- _told_deeds(deeds)
abbrev sOthers : Stmt := top 24 -- _others(kinds, names)
abbrev sKinds_init : Stmt := inClass (top 29) 0 -- Kinds.__init__
abbrev sKinds_eq : Stmt := inClass (top 29) 1 -- Kinds.__eq__
abbrev sKinds_len : Stmt := inClass (top 29) 2 -- Kinds.__len__
abbrev sKinds_iter : Stmt := inClass (top 29) 3 -- Kinds.__iter__
abbrev sKinds_contains : Stmt := inClass (top 29) 4 -- Kinds.__contains__
abbrev sKinds_arity_of : Stmt := inClass (top 29) 5 -- Kinds.arity_of
abbrev sKinds_fault : Stmt := inClass (top 29) 6 -- Kinds.fault
abbrev sRowFault : Stmt := top 30 -- _row_fault(row, arities)
abbrev sAbstract_init : Stmt := inClass (top 34) 0 -- Abstract.__init__
abbrev sAbstract_eq : Stmt := inClass (top 34) 1 -- Abstract.__eq__
abbrev sAbstract_len : Stmt := inClass (top 34) 2 -- Abstract.__len__
abbrev sAbstract_iter : Stmt := inClass (top 34) 3 -- Abstract.__iter__
abbrev sAbstract_from_entries : Stmt := inClass (top 34) 4 -- Abstract.from_entries
abbrev sAbstract_persons : Stmt := inClass (top 34) 5 -- Abstract.persons
abbrev sAbstract_fills : Stmt := inClass (top 34) 6 -- Abstract.fills
abbrev sAbstract_then_year : Stmt := inClass (top 34) 7 -- Abstract.then_year
abbrev sAbstract_last : Stmt := inClass (top 34) 8 -- Abstract.last
abbrev sAbstract_hidden : Stmt := inClass (top 34) 9 -- Abstract.hidden
abbrev sAbstract_is_within : Stmt := inClass (top 34) 10 -- Abstract.is_within
abbrev sNamedIn : Stmt := top 35 -- _named_in(entries)
abbrev sCheckPersons : Stmt := top 36 -- _check_persons(entries)
abbrev sEntryFault : Stmt := top 37 -- _entry_fault(kinds, entry)
abbrev sHistory_init : Stmt := inClass (top 41) 0 -- History.__init__
abbrev sHistory_eq : Stmt := inClass (top 41) 1 -- History.__eq__
abbrev sHistory_len : Stmt := inClass (top 41) 2 -- History.__len__
abbrev sHistory_iter : Stmt := inClass (top 41) 3 -- History.__iter__
abbrev sHistory_from_years : Stmt := inClass (top 41) 4 -- History.from_years
abbrev sHistory_persons : Stmt := inClass (top 41) 5 -- History.persons
abbrev sHistory_deed_count : Stmt := inClass (top 41) 6 -- History.deed_count
abbrev sHistory_first : Stmt := inClass (top 41) 7 -- History.first
abbrev sHistory_last : Stmt := inClass (top 41) 8 -- History.last
abbrev sHistory_beginnings : Stmt := inClass (top 41) 9 -- History.beginnings
abbrev sHistory_joined : Stmt := inClass (top 41) 10 -- History.joined
abbrev sHistory_then_year : Stmt := inClass (top 41) 11 -- History.then_year
abbrev sHistory_renamed : Stmt := inClass (top 41) 12 -- History.renamed
abbrev sHistory_agrees : Stmt := inClass (top 41) 13 -- History.agrees
abbrev sHistoryOf : Stmt := top 42 -- history_of(kinds, years)
abbrev sLastOf : Stmt := top 43 -- _last_of(years, many)
abbrev sIsTooLong : Stmt := top 44 -- _is_too_long(years)
abbrev sYearOf : Stmt := top 45 -- _year_of(kinds, index, year)
abbrev sMix : Stmt := top 47 -- _law_mix(_law_number, _law_turn)
abbrev sHand : Stmt := top 48 -- _law_hand(_law_script)
abbrev sDraw : Stmt := top 49 -- _law_draw(_law_hand_here, _law_many)
abbrev sOne : Stmt := top 50 -- _law_one(_law_hand_here, _law_rows)
abbrev sLArity : Stmt := top 51 -- _law_arity(_law_custom_here, _law_kind)
abbrev sLDeed : Stmt := top 52 -- _law_deed(_law_hand_here, _law_custom_here, _law_persons_here)
abbrev sLYears : Stmt := top 53 -- _law_years(_law_hand_here, _law_custom_here, _law_persons_here, _law_most, _law_deeds)
abbrev sLTruth : Stmt := top 54 -- _law_truth(_law_told, _law_due)
abbrev sLPersons : Stmt := top 55 -- _law_persons()
abbrev sLSome : Stmt := top 56 -- _law_some(_law_hand_here, _law_rows, _law_many)
abbrev sLNames : Stmt := top 57 -- _law_names(_law_hand_here, _law_custom_here)
abbrev sLEntry : Stmt := top 58 -- _law_entry(_law_hand_here, _law_custom_here, _law_persons_here, _law_most)
abbrev sLEntries : Stmt := top 59 -- _law_entries(_law_hand_here, _law_custom_here, _law_persons_here, _law_many, _law_most)
abbrev sLFree : Stmt := top 60 -- _law_free(_law_custom_here, _law_entry_here)
abbrev sLLets : Stmt := top 61 -- _law_lets(_law_custom_here, _law_entry_here, _law_year)
abbrev sLFills : Stmt := top 62 -- _law_fills(_law_custom_here, _law_entries_here, _law_whole, _law_years_here)
abbrev sLPutIn : Stmt := top 63 -- _law_put_in(_law_hand_here, _law_custom_here, _law_entry_here, _law_persons_here, _law_most)
abbrev sLFilling : Stmt := top 64 -- _law_filling(_law_hand_here, _law_custom_here, _law_entries_here, _law_whole, _law_persons_here)
abbrev sLEntryMade : Stmt := top 65 -- _law_entry_made(_law_entry_here)
abbrev sLCustom : Stmt := top 66 -- _law_custom(_law_hand_here)
abbrev sLBent : Stmt := top 67 -- _law_bent(_law_hand_here, _law_custom_here, _law_year, _law_persons_here)
abbrev sLLooser : Stmt := top 68 -- _law_looser(_law_hand_here, _law_custom_here, _law_entry_here, _law_persons_here)
abbrev sLProbes : Stmt := top 69 -- _law_probes(_law_custom_here, _law_entry_here)
abbrev sLWithin : Stmt := top 70 -- _law_within(_law_custom_here, _law_one_here, _law_other)
abbrev sLAbstractWithin : Stmt := top 71 -- _law_abstract_within(_law_custom_here, _law_one_here, _law_whole, _law_other, _law_other_whole)
abbrev sLYearsRight : Stmt := top 72 -- _law_years_right(_law_hand_here, _law_custom_here, _law_kinds, _law_entries_here, _law_persons_here)
abbrev sLFillsRight : Stmt := top 73 -- _law_fills_right(_law_hand_here, _law_custom_here, _law_kinds, _law_entries_here, _law_whole, _law_made, _law_persons_here)
abbrev sLRefusesKinds : Stmt := top 74 -- _law_refuses_kinds(_law_custom_here, _law_made)
abbrev sLaw : Stmt := top 75 -- law(_law_script)
end Kx

set_option maxHeartbeats 4000000
namespace Kx
open PySem L2
section
variable {P : Program} {w : World} {K : PySem.W.Frag} {mg : Str → Option Value} {base : Heap}
structure Bl (mg : Str → Option Value) : Prop where
  int : mg "int" = none
  abs : mg "abs" = none
  len : mg "len" = none
  enumerate : mg "enumerate" = none
  range : mg "range" = none
def spMix : Sp := fun vs H Q _ => ∃ a b : Int, vs = [.int a, .int b] ∧ ∀ z : Int, Q (.int z) H
structure Has (P : Program) (w : World) (K : PySem.W.Frag) (mg : Str → Option Value) (base : Heap) (x : Str) (k : Nat) (ps : List Str) (sp : Sp) (f : Addr) (fd : FuncData) : Prop where
  G : FnOk P w K mg base CX0 k f fd ps sp
  m : mg x = some (.ref f)
  kp : PySem.W.keepIn K (.ref f) = true
  b : Binds K fd ps []
def HasF (P : Program) (w : World) (K : PySem.W.Frag) (mg : Str → Option Value) (base : Heap) (x : Str) (k : Nat) (ps : List Str) (sp : Sp) : Prop := ∃ f fd, Has P w K mg base x k ps sp f fd
theorem scMix : FnScope ["_law_number", "_law_turn", "_law_once", "_law_twice"] ["_law_number", "_law_turn"] (defScope sMix) := ⟨rfl, rfl, rfl, by decide +kernel, rfl, by decide +kernel, by decide +kernel⟩
theorem small31 {z : Int} {m : Int} (h : 0 < m) (h' : m ≤ 2147483648) : CMul (z % m) (z % m) := by
  have h1 := Int.emod_nonneg z (show m ≠ 0 by omega)
  have h2 := Int.emod_lt_of_pos z h
  exact .inl ⟨by omega, by omega⟩
theorem ok_mix {f : Addr} {fd : FuncData} (F : Fun K "_law_mix" "_law_mix" sMix f fd) (m : mg "_law_mix" = some (.ref f)) (T : Bl mg) : HasF P w K mg base "_law_mix" 1 ["_law_number", "_law_turn"] spMix := by
  refine ⟨f, fd, ?_, m, F.kp, F.binds fun _ _ _ _ _ _ us hl => match us, hl with | [_, _], _ => rfl⟩
  refine F.ok scMix (fun vs H Q E h => ?_) (fun cdv A outer s H vs Q E hr h => ?_)
  · obtain ⟨a, b, rfl, _⟩ := h
    rfl
  · obtain ⟨a, b, rfl, k⟩ := h
    refine ⟨_, pss_cons (ps_set (i := 2) scMix.nd rfl (Or.inl rfl) (pe_op op_mod (pe_callTy call_int1 (by rfl) T.int (by decide +kernel) (pa_cons (pe_op op_add (pe_op op_add (pe_op op_mul (pv 0) pe_int) (pe_op op_mul (pv 1) pe_int)) pe_int) pa_nil)) pe_int))
      (pss_cons (ps_set (i := 3) scMix.nd rfl (Or.inl rfl) (pe_op op_mod (pe_callTy call_int1 (by rfl) T.int (by decide +kernel) (pa_cons (pe_op op_add (pe_op op_add (pe_op op_mul (pv 2) (pv 2)) (pe_op op_mul (pe_op op_fdiv (pv 2) pe_int) pe_int)) (pe_op op_mul (pv 1) pe_int)) pa_nil)) pe_int))
      (pss_one (ps_ret (pe_op op_fdiv (pe_op op_mod (pe_callTy call_int1 (by rfl) T.int (by decide +kernel) (pa_cons (pe_op op_add (pe_op op_fdiv (pe_op op_mul (pv 3) (pv 3)) pe_int) (pv 2)) pa_nil)) pe_int) pe_int)))), ?_⟩
    refine ⟨_, rfl, _, _, rfl, rfl, .inr ⟨by decide, by decide⟩, _, rfl, _, _, rfl, rfl, .inr ⟨by decide, by decide⟩, _, _, rfl, rfl, _, _, rfl, rfl, .inl ⟨_, rfl, _, _, rfl, rfl, (by show (0 : Int) < _; decide), ?_⟩⟩
    refine ⟨_, rfl, _, rfl, _, _, rfl, rfl, small31 (by decide) (by decide), _, rfl, _, _, rfl, rfl, ⟨by decide, by decide⟩, _, _, rfl, rfl, .inr ⟨by decide, by decide⟩, _, _, rfl, rfl, _, rfl, _, _, rfl, rfl, .inr ⟨by decide, by decide⟩, _, _, rfl, rfl, .inl ⟨_, rfl, _, _, rfl, rfl, (by show (0 : Int) < _; decide), ?_⟩⟩
    refine ⟨_, rfl, _, rfl, _, _, rfl, rfl, small31 (by decide) (by decide), _, _, rfl, rfl, ⟨by decide, by decide⟩, _, rfl, _, _, rfl, rfl, .inl ⟨_, rfl, _, _, rfl, rfl, (by show (0 : Int) < _; decide), _, _, rfl, rfl, ⟨by decide, by decide⟩, ?_⟩⟩
    exact k _
/-- the hand at p: what is left of the script, and three counters -/
def HandAt (H : Hp) (p q : Addr) : Prop := ∃ (cs : List Int) (a : Nat) (b c : Int), H p = some (.lst [.ref q, .int a, .int b, .int c]) ∧ H q = some (.lst (cs.map V.int))
/-- all but p is as it was -/
def Keep (H H' : Hp) (p : Addr) : Prop := ∀ b o, H b = some o → b ≠ p → H' b = some o
theorem Keep.refl {H : Hp} {p : Addr} : Keep H H p := fun _ _ h _ => h
theorem Keep.trans {H H1 H2 : Hp} {p : Addr} (a : Keep H H1 p) (b : Keep H1 H2 p) : Keep H H2 p := fun c o h e => b c o (a c o h e) e
theorem Keep.upd {H H1 : Hp} {p : Addr} {o : HO} (a : Keep H H1 p) : Keep H (upd H1 p o) p := fun c u h e => by rw [upd_ne e]; exact a c u h e
theorem HandAt.ne {H : Hp} {p q : Addr} {xs ys : List V} (h : H p = some (.lst (.ref q :: xs))) {cs : List Int} (h' : H q = some (.lst (cs.map V.int))) : q ≠ p := by
  intro e
  subst e
  rw [h] at h'
  cases cs with
  | nil => exact nomatch h'
  | cons c cs => exact nomatch h'
def spDraw : Sp := fun vs H Q _ => ∃ (p q : Addr) (m : Int), vs = [.ref p, .int m] ∧ HandAt H p q ∧ 0 < m ∧ m.natAbs < 2 ^ 200 ∧
  ∀ (z : Int) (H' : Hp), 0 ≤ z → z < m → HandAt H' p q → Keep H H' p → Q (.int z) H'
theorem scDraw : FnScope ["_law_hand_here", "_law_many", "_law_cell", "_law_rest"] ["_law_hand_here", "_law_many"] (defScope sDraw) := ⟨rfl, rfl, rfl, by decide +kernel, rfl, by decide +kernel, by decide +kernel⟩
theorem ok_draw {f : Addr} {fd : FuncData} (F : Fun K "_law_draw" "_law_draw" sDraw f fd) (m : mg "_law_draw" = some (.ref f)) (T : Bl mg) (M : HasF P w K mg base "_law_mix" 1 ["_law_number", "_law_turn"] spMix) : HasF P w K mg base "_law_draw" 2 ["_law_hand_here", "_law_many"] spDraw := by
  refine ⟨f, fd, ?_, m, F.kp, F.binds fun _ _ _ _ _ _ us hl => match us, hl with | [_, _], _ => rfl⟩
  obtain ⟨f1, fd1, M⟩ := M
  refine F.ok scDraw (fun vs H Q E h => ?_) (fun cdv A outer s H vs Q E hr h => ?_)
  · obtain ⟨a, b, c, rfl, _⟩ := h
    rfl
  · obtain ⟨p, q, m, rfl, ⟨cs, a, b, c, hp, hq⟩, m0, m1, k⟩ := h
    have nqp : q ≠ p := HandAt.ne (ys := []) hp hq
    refine ⟨_, C8.pss_cut (ps_if (PW.pt (pw_and (pt_cmpR op_eq (pe_ix ix_list (pv 0) pe_int (fun _ _ => rfl)) pe_int (nomark _)) (pw_and1 (pt_cmpR op_lt (pe_ix ix_list (pv 0) pe_int (fun _ _ => rfl)) (pe_callB call_len_seq (by rfl) T.len PySem.boot_len (pa_cons (pe_ix ix_list (pv 0) pe_int (fun _ _ => rfl)) pa_nil)) (nomark _)))))
        (pss_cons (ps_set (i := 2) scDraw.nd rfl (Or.inl rfl) (pe_ix ix_list (pe_ix ix_list (pv 0) pe_int (fun _ _ => rfl)) (pe_ix ix_list (pv 0) pe_int (fun _ _ => rfl)) (fun _ _ => rfl)))
        (pss_cons (ps_asg (pe_op op_add (pe_ix ix_list (pv 0) pe_int (fun _ _ => rfl)) pe_int) (pg_sub (pv 0) pe_int set_list))
        (pss_cons (ps_if (pt_cmpR op_lt (pv 2) (pe_op op_pow pe_int pe_int) (nomark _)) (pss_one (ps_ret (pe_op op_mod (pe_callTy call_int1 (by rfl) T.int (by decide +kernel) (pa_cons (pe_call M.G hr (by rfl) M.m M.kp M.b .nil pass0 (pa_cons (pe_op op_mod (pe_callTy call_int1 (by rfl) T.int (by decide +kernel) (pa_cons (pv 2) pa_nil)) pe_int) (pa_cons (pe_ix ix_list (pv 0) pe_int (fun _ _ => rfl)) pa_nil))) pa_nil)) (pv 1)))) pss_nil)
        (pss_one (ps_asg (pv 2) (pg_sub (pv 0) pe_int set_list)))))) pss_nil)
      (pss_cons (ps_if (pt_cmpR op_gt (pe_ix ix_list (pv 0) pe_int (fun _ _ => rfl)) pe_int (nomark _))
        (pss_cons (ps_set (i := 3) scDraw.nd rfl (Or.inl rfl) (pe_ix ix_list (pv 0) pe_int (fun _ _ => rfl)))
        (pss_cons (ps_asg (pe_op op_fdivW (pv 3) (pv 1)) (pg_sub (pv 0) pe_int set_list))
        (pss_one (ps_ret (pe_op op_mod (pe_callTy call_int1 (by rfl) T.int (by decide +kernel) (pa_cons (pv 3) pa_nil)) (pv 1)))))) pss_nil)
      (pss_cons (ps_asg (pe_op op_mod (pe_callTy call_int1 (by rfl) T.int (by decide +kernel) (pa_cons (pe_op op_add (pe_ix ix_list (pv 0) pe_int (fun _ _ => rfl)) pe_int) pa_nil)) pe_int) (pg_sub (pv 0) pe_int set_list))
      (pss_one (ps_ret (pe_op op_mod (pe_callTy call_int1 (by rfl) T.int (by decide +kernel) (pa_cons (pe_call M.G hr (by rfl) M.m M.kp M.b .nil pass0 (pa_cons (pe_ix ix_list (pv 0) pe_int (fun _ _ => rfl)) (pa_cons (pe_ix ix_list (pv 0) pe_int (fun _ _ => rfl)) pa_nil))) pa_nil)) (pv 1)))))), ?_⟩
    refine ⟨fun σ H1 => ∃ (x y : Option V) (a : Nat) (b c : Int), σ = [some (.ref p), some (.int m), x, y] ∧ H1 p = some (.lst [.ref q, .int a, .int b, .int c]) ∧ H1 q = some (.lst (cs.map V.int)) ∧ Keep H H1 p, ?_, ?_⟩
    · refine ⟨_, rfl, p, _, _, _, rfl, rfl, SqL.of hp, by rfl, rfl, _, rfl, ?_⟩
      refine ite2 (fun _ => ?_) (fun _ => ?_)
      · refine ⟨_, rfl, p, _, _, _, rfl, rfl, SqL.of hp, by rfl, _, rfl, p, _, _, _, rfl, rfl, SqL.of hp, by rfl, q, _, rfl, .inl (SqL.of hq), _, _, rfl, rfl, _, rfl, ?_⟩
        refine ite2 (fun h1 => ?_) (fun _ => ?_)
        · have h1 : (a : Int) < ((cs.map V.int).length : Nat) := of_decide_eq_true h1
          rw [List.length_map] at h1
          have h2 : a < cs.length := by omega
          have h3 : (cs.map V.int)[a]? = some (V.int cs[a]) := by rw [List.getElem?_map, List.getElem?_eq_getElem h2]; rfl
          have hq' : ∀ o, (upd H p o) q = some (.lst (cs.map V.int)) := fun o => by rw [upd_ne nqp]; exact hq
          refine ⟨_, rfl, p, _, _, _, rfl, rfl, SqL.of hp, by rfl, _, rfl, p, _, _, _, rfl, rfl, SqL.of hp, by rfl, q, _, _, _, rfl, rfl, SqL.of hq, atI_nat h3, ?_⟩
          refine ⟨_, rfl, p, _, _, _, rfl, rfl, SqL.of hp, by rfl, _, _, rfl, rfl, _, rfl, p, _, _, _, rfl, rfl, hp, by rfl, ?_⟩
          refine ⟨_, rfl, _, _, rfl, rfl, ⟨by decide, by decide, by decide⟩, _, _, rfl, rfl, _, rfl, ?_⟩
          refine ite2 (fun _ => ?_) (fun _ => ?_)
          · refine ⟨_, rfl, .inl ⟨_, rfl, _, _, rfl, rfl, (by show (0 : Int) < _; decide), _, rfl, p, _, _, _, rfl, rfl, SqL.of upd_same, by rfl, _, _, rfl, fun z => .inl ⟨_, rfl, _, rfl, _, _, rfl, rfl, m0, ?_⟩⟩⟩
            exact k _ _ (Int.emod_nonneg _ (by omega)) (Int.emod_lt_of_pos _ m0) ⟨cs, a + 1, b, c, upd_same, hq' _⟩ Keep.refl.upd
          · refine ⟨_, rfl, _, rfl, p, _, _, _, rfl, rfl, upd_same, by rfl, ?_⟩
            refine ⟨_, _, a + 1, cs[a], c, rfl, upd_same, ?_, Keep.refl.upd.upd⟩
            rw [upd_upd]
            exact hq' _
        · exact ⟨_, _, a, b, c, rfl, hp, hq, Keep.refl⟩
      · exact ⟨_, _, a, b, c, rfl, hp, hq, Keep.refl⟩
    · rintro σ H1 ⟨x, y, a, b, c, rfl, hp, hq, kp⟩
      have hq' : ∀ o, (upd H1 p o) q = some (.lst (cs.map V.int)) := fun o => by rw [upd_ne nqp]; exact hq
      refine ⟨_, rfl, p, _, _, _, rfl, rfl, SqL.of hp, by rfl, _, _, rfl, rfl, _, rfl, ?_⟩
      refine ite2 (fun _ => ?_) (fun _ => ?_)
      · refine ⟨_, rfl, p, _, _, _, rfl, rfl, SqL.of hp, by rfl, _, rfl, _, rfl, _, _, rfl, rfl, wide_div m0 m1 (by decide) (by decide), _, rfl, p, _, _, _, rfl, rfl, hp, by rfl, ?_⟩
        refine ⟨_, rfl, .inl ⟨_, rfl, _, rfl, _, _, rfl, rfl, m0, ?_⟩⟩
        exact k _ _ (Int.emod_nonneg _ (by omega)) (Int.emod_lt_of_pos _ m0) ⟨cs, a, _, c, upd_same, hq' _⟩ kp.upd
      · refine ⟨_, rfl, p, _, _, _, rfl, rfl, SqL.of hp, by rfl, _, _, rfl, rfl, .inl ⟨_, rfl, _, _, rfl, rfl, (by show (0 : Int) < _; decide), _, rfl, p, _, _, _, rfl, rfl, hp, by rfl, ?_⟩⟩
        refine ⟨_, rfl, p, _, _, _, rfl, rfl, SqL.of upd_same, by rfl, _, rfl, p, _, _, _, rfl, rfl, SqL.of upd_same, by rfl, _, _, rfl, fun z => .inl ⟨_, rfl, _, rfl, _, _, rfl, rfl, m0, ?_⟩⟩
        exact k _ _ (Int.emod_nonneg _ (by omega)) (Int.emod_lt_of_pos _ m0) ⟨cs, a, _, _, upd_same, hq' _⟩ kp.upd
/-- over enumerate(list), the list standing still -/
theorem for_enum {K : PySem.W.Frag} {a : Addr} {xs : List V} {g : TG} {tb : TS} {D : Ends} {σ : St} {H : Hp} (W : Nat → St → Hp → Prop) (start : W 0 σ H) (still : ∀ i σ H, W i σ H → SqL K H a xs)
    (turn : ∀ i x σ H T, xs[i]? = some x → W i σ H → H T = none → g (.ref T) σ (upd H T (.tup [.int (i : Nat), x])) fun σ2 H2 => tb { D with nx := W (i + 1), ct := W (i + 1), bk := D.nx } σ2 H2) (after : ∀ σ H, W xs.length σ H → D.nx σ H) :
    ∃ U : Nat → Nat → St → Hp → Prop, (∃ m, U 0 m σ H) ∧ ∀ i m σ H, U i m σ H → ((Ite K a).stop i H ∧ D.nx σ H) ∨ ((Ite K a).go i H ∧ ∃ N : St → Hp → Prop, (∀ σ' H', N σ' H' → ∃ m', m' < m ∧ U (i + 1) m' σ' H') ∧
      ∀ x H', (Ite K a).yld i H x H' → g x σ H' fun σ2 H2 => tb { D with nx := N, ct := N, bk := D.nx } σ2 H2) := by
  refine ⟨fun i m σ H => m + i = xs.length ∧ W i σ H, ⟨xs.length, by omega, start⟩, fun i m σ H u => ?_⟩
  obtain ⟨e, u⟩ := u
  cases m with
  | zero =>
    have e : i = xs.length := by omega
    subst e
    exact .inl ⟨⟨xs, still _ _ _ u, Nat.le_refl _⟩, after _ _ u⟩
  | succ m =>
    have lt : i < xs.length := by omega
    refine .inr ⟨⟨xs, xs[i], still _ _ _ u, List.getElem?_eq_getElem lt⟩, W (i + 1), fun σ' H' u' => ⟨m, Nat.lt_succ_self _, by omega, u'⟩, fun x H' y => ?_⟩
    obtain ⟨T, z, rfl, free, rfl, same⟩ := y
    exact turn i z σ H T (same xs (still _ _ _ u)) u free
def spHand (K : PySem.W.Frag) : Sp := fun vs H Q _ => ∃ (a : Addr) (ns : List Int), vs = [.ref a] ∧ SqL K H a (ns.map V.int) ∧ ns.length ≤ 63 ∧ ∀ (p q : Addr) (H' : Hp), H p = none → H q = none → q ≠ p → HandAt H' p q → Same H H' → Q (.ref p) H'
theorem sameUpd {H H1 : Hp} {p : Addr} {o : HO} (s : Same H H1) (h : H1 p = none) : Same H (upd H1 p o) := fun b u e => by
  have e1 := s b u e
  rw [upd_ne (ne_of_none e1 h)]
  exact e1
theorem item_int {ns : List Int} {i : Nat} {y : V} (h : (ns.map V.int)[i]? = some y) : ∃ z, y = V.int z ∧ ns[i]? = some z := by
  rw [List.getElem?_map] at h
  cases e : ns[i]? with
  | none => rw [e] at h; cases h
  | some z => rw [e] at h; exact ⟨z, (Option.some.inj h).symm, rfl⟩
theorem scHand : FnScope ["_law_script", "_law_total", "_law_k", "_law_cell"] ["_law_script"] (defScope sHand) := ⟨rfl, rfl, rfl, by decide +kernel, rfl, by decide +kernel, by decide +kernel⟩
theorem ok_hand {f : Addr} {fd : FuncData} (F : Fun K "_law_hand" "_law_hand" sHand f fd) (m : mg "_law_hand" = some (.ref f)) (T : Bl mg) : HasF P w K mg base "_law_hand" 1 ["_law_script"] (spHand K) := by
  refine ⟨f, fd, ?_, m, F.kp, F.binds fun _ _ _ _ _ _ us hl => match us, hl with | [_], _ => rfl⟩
  refine F.ok scHand (fun vs H Q E h => ?_) (fun cdv A outer s H vs Q E hr h => ?_)
  · obtain ⟨a, b, rfl, _⟩ := h
    rfl
  · obtain ⟨a, ns, rfl, hS, hl, k⟩ := h
    refine ⟨_, pss_cons (ps_set (i := 1) scHand.nd rfl (Or.inl rfl) pe_int)
      (pss_cons (ps_for PassesOwn.never rfl (pi_enum (by rfl) T.enumerate (pa_cons (pv 0) pa_nil)) (pg_tup rfl (pgs_cons (pg_name (i := 2) scHand.nd rfl (.inl rfl)) (pgs_cons (pg_name (i := 3) scHand.nd rfl (.inl rfl)) pgs_nil)))
        (pss_one (ps_set (i := 1) scHand.nd rfl (Or.inl rfl) (pe_op op_mod (pe_callTy call_int1 (by rfl) T.int (by decide +kernel) (pa_cons (pe_op op_add (pe_op op_mul (pv 1) pe_int) (pe_op op_mul (pe_callTy call_int1 (by rfl) T.int (by decide +kernel) (pa_cons (pv 3) pa_nil)) (pe_op op_add (pv 2) pe_int))) pa_nil)) pe_int))))
      (pss_one (ps_ret (pe_lst (pa_cons (pe_lc (own := [("_law_cell", 3)]) (g := gName 3) (tt := tYes) (by rfl) scHand.nd (pi_list (pv 0)) (blkOk_by (own := [("_law_cell", 3)]) (N := ["_law_script", "_law_total", "_law_k", "_law_cell"]) (sc := defScope sHand) (by decide +kernel))
          (fun _ _ _ _ _ => pg_name (i := 3) scHand.nd rfl (Or.inl rfl)) (fun _ _ _ _ _ => pts_nil) (fun _ _ _ _ _ => (pe_callB call_abs (by rfl) T.abs (by decide +kernel) (pa_cons (pe_callTy call_int1 (by rfl) T.int (by decide +kernel) (pa_cons (pv 3) pa_nil)) pa_nil))))
        (pa_cons pe_int (pa_cons pe_int (pa_cons (pv 1) pa_nil)))))))), ?_⟩
    refine ⟨_, rfl, a, _, rfl, hS, for_enum (K := K) (a := a) (xs := ns.map V.int) (fun i σ H2 => ∃ (t : Int) (x y : Option V), σ = [some (.ref a), some (.int t), x, y] ∧ Same H H2 ∧ True) ⟨_, _, _, rfl, Same.refl _, trivial⟩ (fun i σ H2 ⟨_, _, _, _, s2, _⟩ => s2.seq hS) ?_ ?_⟩
    · rintro i x σ H2 T hi ⟨t, c, d, rfl, s2, _⟩ free
      obtain ⟨z, rfl, hz⟩ := item_int hi
      have hlt : i < ns.length := (List.getElem?_eq_some_iff.mp hz).1
      refine ⟨T, _, rfl, SqT.of upd_same, rfl, _, _, rfl, _, _, rfl, rfl, ?_⟩
      refine ⟨_, rfl, _, _, rfl, rfl, .inr ⟨by decide, by decide⟩, _, rfl, .inl ⟨_, rfl, _, rfl, _, _, rfl, rfl, _, _, rfl, rfl, .inr ⟨by omega, by omega⟩, _, _, rfl, rfl, .inl ⟨_, rfl, _, _, rfl, rfl, (by show (0 : Int) < _; decide), ?_⟩⟩⟩
      exact ⟨_, _, _, rfl, sameUpd s2 free, trivial⟩
    · rintro σ H2 ⟨t, c, d, rfl, s2, _⟩
      have q : ∀ (b : Int) (l : List Int), (l ++ [b]).map V.int = l.map V.int ++ [V.int b] := fun b l => by rw [List.map_append]; rfl
      refine ⟨_, rfl, a, rfl, ⟨_, s2.seq hS⟩, fun D hD => lc_list (K := K) (a := a) (xs := ns.map V.int) (fun i H3 => Same H H3 ∧ ∃ cs : List Int, cs.length = i ∧ H3 D = some (.lst (cs.map V.int))) ⟨sameUpd s2 hD, [], rfl, upd_same⟩ (fun i H3 _ w => w.1.seq hS) ?_ ?_⟩
      · rintro i y H3 hi ⟨s3, cs, hc, hd⟩
        obtain ⟨z, rfl, hz⟩ := item_int hi
        have hlt : i < ns.length := (List.getElem?_eq_some_iff.mp hz).1
        refine ⟨rfl, ?_⟩
        refine ⟨_, rfl, .inl ⟨_, rfl, _, rfl, cs.map V.int, hd, small1000 (by rw [List.length_map]; omega), ?_⟩⟩
        have e : H D = none := s2.free hD
        refine ⟨fun b u e' => ?_, cs ++ [_], by rw [List.length_append, hc]; rfl, by rw [q]; exact upd_same⟩
        rw [upd_ne (ne_of_none e' e)]
        exact s3 b u e'
      · rintro H3 ⟨s3, cs, hc, hd⟩
        refine ⟨_, rfl, (by show 4 ≤ sizeLine; decide), fun p hp => ?_⟩
        have np : p ≠ D := fun e => by rw [e, hd] at hp; cases hp
        exact k p D _ (s3.free hp) (s2.free hD) np.symm ⟨cs, 0, 0, _, upd_same, by rw [upd_ne np.symm]; exact hd⟩ (sameUpd s3 hp)
/-- every sign a letter from a to z -/
def Low (z : Str) : Prop := ∀ c ∈ z.cps.toList, 97 ≤ c ∧ c ≤ 122
theorem abc_at : ∀ n : Fin 26, (Str.ofString "abcdefghijklmnopqrstuvwxyz").cps.toList[n.1]? = some (97 + n.1) := by decide +kernel
theorem abc_ix {z : Int} (h : 0 ≤ z) (h' : z < 26) : atI (Str.ofString "abcdefghijklmnopqrstuvwxyz").cps.toList z = some (97 + z.toNat) := by
  obtain ⟨n, rfl⟩ : ∃ n : Nat, z = n := ⟨z.toNat, by omega⟩
  exact atI_nat (abc_at ⟨n, by omega⟩)
theorem len_app (a b : Str) : (a ++ b).length = a.length + b.length := Array.size_append
theorem cps_app (a b : Str) : (a ++ b).cps.toList = a.cps.toList ++ b.cps.toList := Array.toList_append
theorem Low.app {a b : Str} (h : Low a) (h' : Low b) : Low (a ++ b) := fun c hc => by
  rw [cps_app] at hc
  rcases List.mem_append.mp hc with e | e
  · exact h c e
  · exact h' c e
theorem Low.one {n : Nat} (h : n < 26) : Low ⟨#[97 + n]⟩ := fun c hc => by
  have e : c = 97 + n := by simpa using hc
  omega
theorem Low.nil : Low (Str.ofString "") := fun c hc => by
  have e : (Str.ofString "").cps.toList = [] := by decide +kernel
  rw [e] at hc
  cases hc
def spOne : Sp := fun vs H Q _ => ∃ (p q r : Addr) (xs : List V), vs = [.ref p, .ref r] ∧ HandAt H p q ∧ H r = some (.lst xs) ∧ r ≠ p ∧ 0 < xs.length ∧ xs.length ≤ 1000 ∧
  ∀ (x : V) (H' : Hp), x ∈ xs → HandAt H' p q → Keep H H' p → Q x H'
def spWord : Sp := fun vs H Q _ => ∃ (p q : Addr) (m : Int), vs = [.ref p, .int m] ∧ HandAt H p q ∧ 0 < m ∧ m ≤ 10 ∧
  ∀ (z : Str) (H' : Hp), 0 < z.length → z.length ≤ m.toNat → Low z → HandAt H' p q → Keep H H' p → Q (.str z) H'
theorem scOne : FnScope ["_law_hand_here", "_law_rows"] ["_law_hand_here", "_law_rows"] (defScope sOne) := ⟨rfl, rfl, rfl, by decide +kernel, rfl, by decide +kernel, by decide +kernel⟩
theorem ok_one {f : Addr} {fd : FuncData} (F : Fun K "_law_one" "_law_one" sOne f fd) (m : mg "_law_one" = some (.ref f)) (T : Bl mg) (D : HasF P w K mg base "_law_draw" 2 ["_law_hand_here", "_law_many"] spDraw) : HasF P w K mg base "_law_one" 3 ["_law_hand_here", "_law_rows"] spOne := by
  refine ⟨f, fd, ?_, m, F.kp, F.binds fun _ _ _ _ _ _ us hl => match us, hl with | [_, _], _ => rfl⟩
  obtain ⟨f1, fd1, D⟩ := D
  refine F.ok scOne (fun vs H Q E h => ?_) (fun cdv A outer s H vs Q E hr h => ?_)
  · obtain ⟨a, b, c, d, rfl, _⟩ := h
    rfl
  · obtain ⟨p, q, r, xs, rfl, hp, hx, ne, h0, h9, k⟩ := h
    refine ⟨_, pss_one (ps_ret (pe_ix ix_list (pv 1) (pe_call D.G hr (by rfl) D.m D.kp D.b .nil pass0 (pa_cons (pv 0) (pa_cons (pe_callB call_len_seq (by rfl) T.len PySem.boot_len (pa_cons (pv 1) pa_nil)) pa_nil))) (fun _ _ => rfl))), ?_⟩
    have hz : xs.length < 2 ^ 200 := Nat.lt_of_le_of_lt h9 (by decide)
    refine ⟨_, rfl, _, rfl, _, rfl, r, _, rfl, .inl (SqL.of hx), p, q, _, rfl, hp, by omega, by rw [Int.natAbs_natCast]; exact hz, fun z H1 z0 z1 hp1 k1 => ?_⟩
    obtain ⟨n, rfl⟩ : ∃ n : Nat, z = n := ⟨z.toNat, by omega⟩
    have lt : n < xs.length := by omega
    exact ⟨r, xs, n, _, rfl, rfl, SqL.of (k1 r _ hx ne), atI_nat (List.getElem?_eq_getElem lt), k _ _ (List.getElem_mem lt) hp1 k1⟩
/-- the kinds of things that are asked -/
inductive Kd (H : Hp) : V → String → Prop where
  | non : Kd H .non "NoneType"
  | bl (b : Bool) : Kd H (.bl b) "bool"
  | int (i : Int) : Kd H (.int i) "int"
  | str (z : Str) : Kd H (.str z) "str"
  | lst (a : Addr) (xs : List V) (h : H a = some (.lst xs)) : Kd H (.ref a) "list"
  | tup (a : Addr) (xs : List V) (h : H a = some (.tup xs)) : Kd H (.ref a) "tuple"
  | dct (a : Addr) (xs : List (Key × V)) (h : H a = some (.dK xs)) : Kd H (.ref a) "dict"
theorem Kd.ty {K : PySem.W.Frag} {H : Hp} {x : V} {n : String} (k : Kd H x n) : TyX K H x (.type n) := by
  cases k with
  | non => exact .base .non
  | bl b => exact .base (.bl _)
  | int i => exact .base (.int _)
  | str z => exact .base (.str _)
  | lst a xs h => exact .base (.lst h)
  | tup a xs h => exact .base (.tup h)
  | dct a xs h => exact .base (.dK h)
theorem Kd.kits {H : Hp} {x : V} {n : String} (k : Kd H x n) : n ∈ ["NoneType", "bool", "int", "str", "list", "tuple", "dict"] := by cases k <;> decide
structure Bm (mg : Str → Option Value) : Prop where
  isinstance : mg "isinstance" = none
  str : mg "str" = none
  bool : mg "bool" = none
  list : mg "list" = none
  tuple : mg "tuple" = none
  longest : ∃ t, mg "LONGEST_LABEL" = some (.int 6 t)
theorem kit_int {n : String} (h : n ∈ ["NoneType", "bool", "int", "str", "list", "tuple", "dict"]) : kitB n "int" = some (n == "int" || n == "bool") := by
  simp only [List.mem_cons, List.not_mem_nil, or_false] at h
  rcases h with h | h | h | h | h | h | h <;> (subst h; decide +kernel)
theorem kit_bool {n : String} (h : n ∈ ["NoneType", "bool", "int", "str", "list", "tuple", "dict"]) : kitB n "bool" = some (n == "bool") := by
  simp only [List.mem_cons, List.not_mem_nil, or_false] at h
  rcases h with h | h | h | h | h | h | h <;> (subst h; decide +kernel)
theorem kit_str {n : String} (h : n ∈ ["NoneType", "bool", "int", "str", "list", "tuple", "dict"]) : kitB n "str" = some (n == "str") := by
  simp only [List.mem_cons, List.not_mem_nil, or_false] at h
  rcases h with h | h | h | h | h | h | h <;> (subst h; decide +kernel)
theorem kit_list {n : String} (h : n ∈ ["NoneType", "bool", "int", "str", "list", "tuple", "dict"]) : kitB n "list" = some (n == "list") := by
  simp only [List.mem_cons, List.not_mem_nil, or_false] at h
  rcases h with h | h | h | h | h | h | h <;> (subst h; decide +kernel)
theorem kit_tuple {n : String} (h : n ∈ ["NoneType", "bool", "int", "str", "list", "tuple", "dict"]) : kitB n "tuple" = some (n == "tuple") := by
  simp only [List.mem_cons, List.not_mem_nil, or_false] at h
  rcases h with h | h | h | h | h | h | h <;> (subst h; decide +kernel)
/-- a whole number from lo to hi -/
def wholeV (x : V) (lo hi : Int) : Bool := match x with
  | .int i => decide (lo ≤ i) && decide (i ≤ hi)
  | _ => false
def spWhole : Sp := fun vs H Q _ => ∃ (x : V) (n : String) (lo hi : Int), vs = [x, .int lo, .int hi] ∧ Kd H x n ∧ Q (.bl (wholeV x lo hi)) H
theorem scWhole : FnScope ["thing", "low", "high"] ["thing", "low", "high"] (defScope sWhole) := ⟨rfl, rfl, rfl, by decide +kernel, rfl, by decide +kernel, by decide +kernel⟩
theorem ok_whole {f : Addr} {fd : FuncData} (F : Fun K "is_whole" "is_whole" sWhole f fd) (m : mg "is_whole" = some (.ref f)) (T : Bl mg) (B : Bm mg) : HasF P w K mg base "is_whole" 1 ["thing", "low", "high"] spWhole := by
  refine ⟨f, fd, ?_, m, F.kp, F.binds fun _ _ _ _ _ _ us hl => match us, hl with | [_, _, _], _ => rfl⟩
  refine F.ok scWhole (fun vs H Q E h => ?_) (fun cdv A outer s H vs Q E hr h => ?_)
  · obtain ⟨a, b, c, d, rfl, _⟩ := h
    rfl
  · obtain ⟨x, n, lo, hi, rfl, hk, k⟩ := h
    refine ⟨_, pss_one (ps_ret (pe_and (pe_callB call_isi (by rfl) B.isinstance (by decide +kernel) (pa_cons (pv 0) (pa_cons (pe_bltn (v := .ty "int") (by rfl) T.int (by decide +kernel) rfl) pa_nil))) (pe_and (pe_not (pe_callB call_isi (by rfl) B.isinstance (by decide +kernel) (pa_cons (pv 0) (pa_cons (pe_bltn (v := .ty "bool") (by rfl) B.bool (by decide +kernel) rfl) pa_nil)))) (pe_one (pe_chain op_le op_le (pv 1) (pv 0) (pv 2)))))), ?_⟩
    refine ⟨_, rfl, x, _, _, _, _, rfl, .ty _, hk.ty, kit_ty (kit_int hk.kits), _, rfl, ?_⟩
    cases hk with
    | int i =>
      refine iteT ⟨_, rfl, .int i, _, _, _, _, rfl, .ty _, (Kd.int (H := H) i).ty, kit_ty (kit_bool (Kd.int (H := H) i).kits), _, rfl, _, rfl, ?_⟩
      refine iteT ⟨_, rfl, _, rfl, _, _, rfl, rfl, _, rfl, ?_⟩
      refine ite2 (fun h1 => ?_) (fun h1 => ?_)
      · have h1 : lo ≤ i := of_decide_eq_true h1
        refine ⟨_, rfl, _, _, rfl, rfl, ?_⟩
        have e : wholeV (.int i) lo hi = decide (i ≤ hi) := by simp [wholeV, h1]
        rw [e] at k
        exact k
      · have h1 : ¬ lo ≤ i := fun z => h1 (decide_eq_true z)
        have e : wholeV (.int i) lo hi = false := by simp [wholeV, h1]
        rw [e] at k
        exact k
    | bl b =>
      refine iteT ⟨_, rfl, .bl b, _, _, _, _, rfl, .ty _, (Kd.bl (H := H) b).ty, kit_ty (kit_bool (Kd.bl (H := H) b).kits), _, rfl, _, rfl, ?_⟩
      exact iteF k
    | non => exact iteF k
    | str z => exact iteF k
    | lst a xs h => exact iteF k
    | tup a xs h => exact iteF k
    | dct a xs h => exact iteF k
/-! labels -/
def isLow (c : Nat) : Bool := decide (97 ≤ c) && decide (c ≤ 122)
def isLab (z : Str) : Bool := decide (1 ≤ z.length) && (decide (z.length ≤ 6) && z.cps.toList.all isLow)
def labV (x : V) : Bool := match x with
  | .str z => isLab z
  | _ => false
theorem low_alpha : ∀ n : Fin 128, isLow n.1 = (Unicode.isAlpha n.1 && !(Unicode.isUpper n.1 || Unicode.isTitle n.1)) := by decide +kernel
theorem low_lower : ∀ n : Fin 128, isLow n.1 = true → Unicode.isLower n.1 = true := by decide +kernel
theorem low_small {c : Nat} (h : isLow c = true) : c < 128 := by
  simp only [isLow, Bool.and_eq_true, decide_eq_true_eq] at h
  omega
theorem three (z : Str) (h : 1 ≤ z.length) : (PySem.Txt.isascii z && (PySem.Txt.isalpha z && PySem.Txt.islower z)) = z.cps.toList.all isLow := by
  have hl : z.cps.toList.length = z.length := by simp [Str.length]
  unfold PySem.Txt.isascii PySem.Txt.isalpha PySem.Txt.islower
  rw [← Array.all_toList, ← Array.all_toList, ← Array.any_toList, ← Array.any_toList]
  generalize z.cps.toList = l at hl
  cases e : l.all isLow with
  | true =>
    rw [List.all_eq_true] at e
    have a1 : l.all (fun c => decide (c < 128)) = true := List.all_eq_true.mpr fun c hc => decide_eq_true (low_small (e c hc))
    have a2 : l.all Unicode.isAlpha = true := List.all_eq_true.mpr fun c hc => by
      have q := low_alpha ⟨c, low_small (e c hc)⟩
      rw [show isLow c = true from e c hc] at q
      exact (Bool.and_eq_true_iff.mp q.symm).1
    have a3 : l.any Unicode.isLower = true := by
      cases l with
      | nil => simp only [List.length_nil] at hl; omega
      | cons c l => exact List.any_eq_true.mpr ⟨c, List.mem_cons_self, low_lower ⟨c, low_small (e c List.mem_cons_self)⟩ (e c List.mem_cons_self)⟩
    have a4 : (l.any fun c => Unicode.isUpper c || Unicode.isTitle c) = false := List.any_eq_false.mpr fun c hc => by
      have q := low_alpha ⟨c, low_small (e c hc)⟩
      rw [show isLow c = true from e c hc] at q
      have q2 := (Bool.and_eq_true_iff.mp q.symm).2
      intro z
      rw [z] at q2
      cases q2
    rw [a1, a2, a3, a4]
    have h' : decide (z.length > 0) = true := decide_eq_true (by omega)
    rw [h']
    rfl
  | false =>
    obtain ⟨c, hc, hn⟩ := List.all_eq_false.mp e
    cases a1 : l.all (fun c => decide (c < 128)) with
    | false => rfl
    | true =>
      cases a2 : l.all Unicode.isAlpha with
      | false => simp
      | true =>
        have b1 : c < 128 := of_decide_eq_true (List.all_eq_true.mp a1 c hc)
        have b2 : Unicode.isAlpha c = true := List.all_eq_true.mp a2 c hc
        have q := low_alpha ⟨c, b1⟩
        simp only [b2, Bool.true_and] at q
        have q1 : isLow c = false := by
          cases z : isLow c
          · rfl
          · exact absurd z hn
        rw [q1] at q
        have a4 : (l.any fun c => Unicode.isUpper c || Unicode.isTitle c) = true := List.any_eq_true.mpr ⟨c, hc, by
          cases z : (Unicode.isUpper c || Unicode.isTitle c)
          · rw [z] at q; cases q
          · rfl⟩
        rw [a4]
        simp
def spLabel : Sp := fun vs H Q _ => ∃ (x : V) (n : String), vs = [x] ∧ Kd H x n ∧ (∀ z, x = .str z → z.length ≤ sizeLine) ∧ Q (.bl (labV x)) H
theorem scLabel : FnScope ["thing"] ["thing"] (defScope sLabel) := ⟨rfl, rfl, rfl, by decide +kernel, rfl, by decide +kernel, by decide +kernel⟩
theorem ok_label {f : Addr} {fd : FuncData} (F : Fun K "is_label" "is_label" sLabel f fd) (m : mg "is_label" = some (.ref f)) (T : Bl mg) (B : Bm mg) : HasF P w K mg base "is_label" 1 ["thing"] spLabel := by
  refine ⟨f, fd, ?_, m, F.kp, F.binds fun _ _ _ _ _ _ us hl => match us, hl with | [_], _ => rfl⟩
  obtain ⟨tL, mL⟩ := B.longest
  refine F.ok scLabel (fun vs H Q E h => ?_) (fun cdv A outer s H vs Q E hr h => ?_)
  · obtain ⟨a, b, rfl, _⟩ := h
    rfl
  · obtain ⟨x, n, rfl, hk, hz, k⟩ := h
    refine ⟨_, pss_cons (ps_if (PW.pt (pw_or (pt_not (pt_val (pe_callB call_isi (by rfl) B.isinstance (by decide +kernel) (pa_cons (pv 0) (pa_cons (pe_bltn (v := .ty "str") (by rfl) B.str (by decide +kernel) rfl) pa_nil))))) (pw_or1 (pt_not (pt_chain op_le op_le pe_int (pe_callB call_len_str (by rfl) T.len PySem.boot_len (pa_cons (pv 0) pa_nil)) (pe_glob (v := .int 6) rfl mL ⟨_, rfl⟩)))))) (pss_one (ps_ret pe_bl)) pss_nil)
      (pss_one (ps_ret (pe_and (pe_m0 PySem.F.slot_str_isascii PySem.F.type_str_isascii mt_isascii (pv 0)) (pe_and (pe_m0 PySem.F.slot_str_isalpha PySem.F.type_str_isalpha mt_isalpha (pv 0)) (pe_one (pe_m0 PySem.F.slot_str_islower PySem.F.type_str_islower mt_islower (pv 0))))))), ?_⟩
    refine ⟨_, rfl, x, _, _, _, _, rfl, .ty _, hk.ty, kit_ty (kit_str hk.kits), _, rfl, ?_⟩
    cases hk with
    | str z =>
      have hz := hz z rfl
      refine iteF ?_
      refine ⟨_, rfl, z, rfl, hz, _, _, rfl, rfl, _, rfl, ?_⟩
      refine ite2 (fun h1 => ?_) (fun h1 => ?_)
      · have h1 : (1 : Int) ≤ (z.length : Nat) := of_decide_eq_true h1
        have h1' : 1 ≤ z.length := by omega
        refine ⟨_, _, rfl, rfl, _, rfl, ?_⟩
        refine ite2 (fun h2 => ?_) (fun h2 => ?_)
        · have h2 : ¬ (z.length : Int) ≤ 6 := fun e => by rw [decide_eq_true e] at h2; cases h2
          have e : labV (.str z) = false := by
            show isLab z = false
            unfold isLab
            rw [decide_eq_false (show ¬ z.length ≤ 6 by omega), Bool.false_and, Bool.and_false]
          rw [e] at k
          exact k
        · have h2 : (z.length : Int) ≤ 6 := Classical.byContradiction fun e => h2 (by rw [decide_eq_false e]; rfl)
          have e : labV (.str z) = (PySem.Txt.isascii z && (PySem.Txt.isalpha z && PySem.Txt.islower z)) := by
            rw [three z h1']
            show isLab z = _
            unfold isLab
            rw [decide_eq_true h1', decide_eq_true (show z.length ≤ 6 by omega), Bool.true_and, Bool.true_and]
          rw [e] at k
          refine ⟨_, rfl, ⟨_, rfl⟩, _, rfl, rfl, trivial, _, rfl, ?_⟩
          cases e1 : PySem.Txt.isascii z with
          | false => rw [e1] at k; exact iteF k
          | true =>
            rw [e1, Bool.true_and] at k
            refine iteT ⟨_, rfl, ⟨_, rfl⟩, _, rfl, rfl, trivial, _, rfl, ?_⟩
            cases e2 : PySem.Txt.isalpha z with
            | false => rw [e2] at k; exact iteF k
            | true =>
              rw [e2, Bool.true_and] at k
              exact iteT ⟨_, rfl, ⟨_, rfl⟩, _, rfl, rfl, trivial, k⟩
      · have h1 : ¬ (1 : Int) ≤ (z.length : Nat) := fun e => h1 (decide_eq_true e)
        have e : labV (.str z) = false := by
          show isLab z = false
          unfold isLab
          rw [decide_eq_false (show ¬ 1 ≤ z.length by omega), Bool.false_and]
        rw [e] at k
        exact ⟨_, rfl, iteT k⟩
    | int i => exact iteT k
    | bl b => exact iteT k
    | non => exact iteT k
    | lst a xs h => exact iteT k
    | tup a xs h => exact iteT k
    | dct a xs h => exact iteT k
def seqV (n : String) : Bool := n == "list" || n == "tuple"
def spSeq : Sp := fun vs H Q _ => ∃ (x : V) (n : String), vs = [x] ∧ Kd H x n ∧ ∀ H', Same H H' → Q (.bl (seqV n)) H'
theorem scSeq : FnScope ["thing"] ["thing"] (defScope sSeq) := ⟨rfl, rfl, rfl, by decide +kernel, rfl, by decide +kernel, by decide +kernel⟩
theorem kit_seq {K : PySem.W.Frag} {n : String} (h : n ∈ ["NoneType", "bool", "int", "str", "list", "tuple", "dict"]) : PySem.W.kitAny K (.type n) [.type "list", .type "tuple"] = some (seqV n) := by
  refine kitAny_cons (kit_ty (kit_list h)) (fun e => kitAny_cons (kit_ty (kit_tuple h)) (fun e2 => ?_) (fun e2 => ?_)) (fun e => ?_)
  · unfold seqV; rw [e, e2]; exact kitAny_nil
  · unfold seqV; rw [e, e2]; rfl
  · unfold seqV; rw [e]; rfl
theorem Kd.keep {H H' : Hp} {x : V} {n : String} (k : Kd H x n) (s : Same H H') : Kd H' x n := by
  cases k with
  | non => exact .non
  | bl b => exact .bl b
  | int i => exact .int i
  | str z => exact .str z
  | lst a xs h => exact .lst a xs (s _ _ h)
  | tup a xs h => exact .tup a xs (s _ _ h)
  | dct a xs h => exact .dct a xs (s _ _ h)
theorem ok_seq {f : Addr} {fd : FuncData} (F : Fun K "is_sequence" "is_sequence" sSeq f fd) (m : mg "is_sequence" = some (.ref f)) (B : Bm mg) : HasF P w K mg base "is_sequence" 1 ["thing"] spSeq := by
  refine ⟨f, fd, ?_, m, F.kp, F.binds fun _ _ _ _ _ _ us hl => match us, hl with | [_], _ => rfl⟩
  refine F.ok scSeq (fun vs H Q E h => ?_) (fun cdv A outer s H vs Q E hr h => ?_)
  · obtain ⟨a, b, rfl, _⟩ := h
    rfl
  · obtain ⟨x, n, rfl, hk, k⟩ := h
    refine ⟨_, pss_one (ps_ret (pe_callB call_isiT (by rfl) B.isinstance (by decide +kernel) (pa_cons (pv 0) (pa_cons (pe_tup (pa_cons (pe_bltn (v := .ty "list") (by rfl) B.list (by decide +kernel) rfl) (pa_cons (pe_bltn (v := .ty "tuple") (by rfl) B.tuple (by decide +kernel) rfl) pa_nil))) pa_nil)))), ?_⟩
    refine ⟨_, rfl, by decide, fun t ht => ?_⟩
    exact ⟨x, t, _, _, _, _, rfl, upd_same, .cons (.ty _) (.cons (.ty _) .nil), (hk.keep (sameUpd (Same.refl _) ht)).ty, kit_seq hk.kits, k _ (sameUpd (Same.refl _) ht)⟩
def cV (c : Nat) : V := .str (SX.S [c])
theorem map_cV (l : List Nat) : l.map cV = (l.map fun c => SX.S [c]).map V.str := by rw [List.map_map]; rfl
theorem keepUpd {H H1 : Hp} {p a : Addr} {o : HO} (k : Keep H H1 p) (h : H a = none) : Keep H (upd H1 a o) p := fun b u e ne => by
  rw [upd_ne (ne_of_none e h)]
  exact k b u e ne
theorem HandAt.upd {H : Hp} {p q a : Addr} {o : HO} (h : HandAt H p q) (n1 : a ≠ p) (n2 : a ≠ q) : HandAt (upd H a o) p q := by
  obtain ⟨cs, x, b, c, h1, h2⟩ := h
  exact ⟨cs, x, b, c, by rw [upd_ne n1.symm]; exact h1, by rw [upd_ne n2.symm]; exact h2⟩
theorem HandAt.ap {H : Hp} {p q a : Addr} (h : HandAt H p q) (ha : H a = none) : a ≠ p := by
  obtain ⟨cs, x, b, c, h1, h2⟩ := h
  exact (ne_of_none h1 ha).symm
theorem HandAt.aq {H : Hp} {p q a : Addr} (h : HandAt H p q) (ha : H a = none) : a ≠ q := by
  obtain ⟨cs, x, b, c, h1, h2⟩ := h
  exact (ne_of_none h2 ha).symm
theorem HandAt.same {H H' : Hp} {p q : Addr} (h : HandAt H p q) (s : Same H H') : HandAt H' p q := by
  obtain ⟨cs, x, b, c, h1, h2⟩ := h
  exact ⟨cs, x, b, c, s _ _ h1, s _ _ h2⟩
theorem Same.keep {H H' : Hp} {p : Addr} (s : Same H H') : Keep H H' p := fun b o e _ => s b o e
/-- texts as data -/
def dS (ys : List Str) : List PyData := ys.map PyData.str
theorem dp_strs {K : PySem.W.Frag} {H : Hp} : ∀ ys : List Str, DpAll K H (ys.map V.str) (dS ys)
  | [] => .nil
  | y :: ys => .cons (.str y) (dp_strs ys)
def Ok (ys : List Str) : Prop := ∀ y ∈ ys, PyData.strOk y = true
theorem low_ok {z : Str} (h : Low z) : PyData.strOk z = true := by
  unfold PyData.strOk
  rw [← Array.all_toList]
  exact List.all_eq_true.mpr fun c hc => decide_eq_true (by have := h c hc; omega)
theorem lay_strs {ys : List Str} (h : Ok ys) : PyData.canLayAll0 (dS ys) = true := by
  unfold dS
  rw [PyProof.Rows.canLayAll_strs']
  exact List.all_eq_true.mpr h
theorem deep_strs : ∀ ys : List Str, PyData.depthAll (dS ys) ≤ 1
  | [] => Nat.zero_le _
  | y :: ys => by
    have ih := deep_strs ys
    show max (PyData.depth (.str y)) (PyData.depthAll (dS ys)) ≤ 1
    have e : PyData.depth (.str y) = 0 := rfl
    omega
theorem shaped_list {ys : List Str} (ok : Ok ys) : SeqAt.shaped (.list (dS ys)) = true := by
  have h := lay_strs ok
  have h2 := deep_strs ys
  have h3 : PyData.depth (.list (dS ys)) ≤ 64 := by
    show PyData.depthAll (dS ys) + 1 ≤ 64
    omega
  unfold SeqAt.shaped
  rw [decide_eq_true h3, Bool.and_true]
  exact h
/-- a comprehension over a text's signs -/
theorem lc_str {z : Str} {g : TG} {tt : TT} {te : TE} {vs : List Nat} {σ : St} {H1 : Hp} {D : Addr} {Qd : Hp → Prop} (W : Nat → Hp → Prop) (start : W 0 (upd H1 D (.lst [])))
    (turn : ∀ i c H, z.cps[i]? = some c → W i H → g (.str ⟨#[c]⟩) (wipe σ vs) H fun σ2 H2 => wipe σ2 vs = wipe σ vs ∧ tt σ2 H2 fun b H3 =>
      if b = true then te σ2 H3 fun y H4 => ∃ acc, H4 D = some (.lst acc) ∧ acc.length < sizeLine ∧ W (i + 1) (upd H4 D (.lst (acc ++ [y]))) else W (i + 1) H3) (after : ∀ H, W z.cps.size H → Qd H) :
    ∃ U : Nat → Nat → Hp → Prop, (∃ m, U 0 m (upd H1 D (.lst []))) ∧ ∀ i m H, U i m H → ((Its z).stop i H ∧ Qd H) ∨ ((Its z).go i H ∧ ∃ Nx : Hp → Prop, (∀ H', Nx H' → ∃ m', m' < m ∧ U (i + 1) m' H') ∧
      ∀ x H', (Its z).yld i H x H' → g x (wipe σ vs) H' fun σ2 H2 => wipe σ2 vs = wipe σ vs ∧ tt σ2 H2 fun b H3 => if b = true then te σ2 H3 fun y H4 => ∃ acc, H4 D = some (.lst acc) ∧ acc.length < sizeLine ∧ Nx (upd H4 D (.lst (acc ++ [y]))) else Nx H3) := by
  refine ⟨fun i m H => m + i = z.cps.size ∧ W i H, ⟨z.cps.size, by omega, start⟩, fun i m H u => ?_⟩
  obtain ⟨e, u⟩ := u
  cases m with
  | zero =>
    obtain rfl : i = z.cps.size := by omega
    exact .inl ⟨Nat.le_refl _, after _ u⟩
  | succ m =>
    have lt : i < z.cps.size := by omega
    refine .inr ⟨lt, W (i + 1), fun H' u' => ⟨m, Nat.lt_succ_self _, by omega, u'⟩, fun x H' y => ?_⟩
    obtain ⟨rfl, c, hc, rfl⟩ := y
    exact turn i c _ hc u
def spLLab : Sp := fun vs H Q _ => ∃ (x : V) (n : String), vs = [x] ∧ Kd H x n ∧ (∀ z, x = .str z → PyData.strOk z = true ∧ z.length ≤ 100) ∧ ∀ H', Same H H' → Q (.bl (labV x)) H'
theorem eqv_nil : ∀ ys : List Str, PyData.eqv (.list (dS ys)) (.list []) = ys.isEmpty
  | [] => rfl
  | y :: ys => rfl
/-- the signs that are no letters from a to z -/
def bad (l : List Nat) : List Nat := l.filter fun c => !isLow c
theorem bad_nil (l : List Nat) : (bad l).isEmpty = l.all isLow := by
  unfold bad
  induction l with
  | nil => rfl
  | cons c l ih =>
    rw [List.filter_cons, List.all_cons, ← ih]
    cases isLow c <;> rfl
theorem abc_in : ∀ c, decide (c ∈ (Str.ofString "abcdefghijklmnopqrstuvwxyz").cps.toList) = isLow c := fun c => by
  have e : (Str.ofString "abcdefghijklmnopqrstuvwxyz").cps.toList = (List.range 26).map (97 + ·) := by decide +kernel
  rw [e]
  unfold isLow
  by_cases h : c ∈ (List.range 26).map (97 + ·)
  · obtain ⟨j, hj, rfl⟩ := List.mem_map.mp h
    have := List.mem_range.mp hj
    rw [decide_eq_true h, decide_eq_true (show 97 ≤ 97 + j by omega), decide_eq_true (show 97 + j ≤ 122 by omega)]
    rfl
  · rw [decide_eq_false h]
    by_cases h1 : 97 ≤ c
    · have h2 : ¬ c ≤ 122 := fun h2 => h (List.mem_map.mpr ⟨c - 97, List.mem_range.mpr (by omega), by omega⟩)
      rw [decide_eq_false h2, Bool.and_false]
    · rw [decide_eq_false h1, Bool.false_and]
def Fine (z : Str) : Prop := PyData.strOk z = true ∧ z.length ≤ 40
def spOdd : Sp := fun vs H Q _ => ∃ p q : Addr, vs = [.ref p] ∧ HandAt H p q ∧ ∀ (x : V) (n : String) (H' : Hp), Kd H' x n → (∀ z, x = .str z → Fine z) → HandAt H' p q → Keep H H' p → Q x H'
theorem fine_up {z : Str} (h : Low z) (l : z.length ≤ 20) : Fine (PySem.Txt.upper z) := by
  have a : ∀ c ∈ z.cps.toList, c < 128 := fun c hc => by have := h c hc; omega
  rw [PyProof.Rows.upper_ascii a]
  refine ⟨?_, ?_⟩
  · unfold PyData.strOk
    rw [← Array.all_toList, Array.toList_map, List.all_map]
    refine List.all_eq_true.mpr fun c hc => decide_eq_true ?_
    have h1 := h c hc
    show PyProof.Rows.up1 c < 0x110000
    unfold PyProof.Rows.up1
    split <;> omega
  · show (z.cps.map _).size ≤ 40
    rw [Array.size_map]
    have e : z.cps.size = z.length := rfl
    omega
theorem none2 {H : Hp} {a b : Addr} {o : HO} (h : upd H a o b = none) : H b = none ∧ b ≠ a := by
  have n : b ≠ a := fun e => by rw [e, upd_same] at h; cases h
  rw [upd_ne n] at h
  exact ⟨h, n⟩
theorem fine_low {z : Str} (h : Low z) (l : z.length ≤ 20) : Fine z := ⟨low_ok h, by omega⟩
theorem fine_app {a b : Str} (h : Fine a) (l : a.length ≤ 20) (hb : PyData.strOk b = true) (lb : b.length ≤ 20) : Fine (a ++ b) := by
  refine ⟨?_, by rw [len_app]; omega⟩
  have h1 := h.1
  unfold PyData.strOk at h1 hb ⊢
  rw [← Array.all_toList] at h1 hb ⊢
  rw [cps_app, List.all_append, h1, hb]
  rfl
end
end Kx


set_option maxHeartbeats 4000000
namespace Kx
open PySem L2
/-! own errors with fields -/
/-- __init__ of such an error: both are stored -/
def spInit2 (K : PySem.W.Frag) (C : Addr) (f1 f2 : Str) : Sp := fun vs H Q _ => ∃ (a : Addr) (y z : V), vs = [.ref a, y, z] ∧ OexC K C ∧ PySem.W.findIn K (.ref C) f1 = some none ∧ PySem.W.findIn K (.ref C) f2 = some none ∧ H a = some (exo a C none) ∧
  ∀ (d : Addr) (H' : Hp), H d = none → d ≠ a → H' a = some (exo a C (some d)) → H' d = some (exd d [(f2, z), (f1, y)]) → (∀ b o, H b = some o → b ≠ a → H' b = some o) → Q .non H'
section
variable {P : Program} {w : World} {K : PySem.W.Frag} {mg : Str → Option Value} {base : Heap}
theorem scBadKinds : FnScope ["self", "index", "what"] ["self", "index", "what"] (defScope sBadKinds_init) := ⟨rfl, rfl, rfl, by decide +kernel, rfl, by decide +kernel, by decide +kernel⟩
theorem ok_BadKinds {f C : Addr} {fd : FuncData} (F : Fun K "__init__" "BadKinds.__init__" sBadKinds_init f fd) : FnOk P w K mg base CX0 1 f fd ["self", "index", "what"] (spInit2 K C "index" "what") := by
  refine F.ok scBadKinds (fun vs H Q E h => ?_) (fun cdv A outer s H vs Q E hr h => ?_)
  · obtain ⟨a, y, z, rfl, _⟩ := h
    rfl
  · obtain ⟨a, y, z, rfl, T, n1, n2, ha, k⟩ := h
    refine ⟨_, pss_cons (ps_ost (pv 0) (pv 1)) (pss_one (ps_ost (pv 0) (pv 2))), ?_⟩
    refine ⟨_, rfl, _, rfl, a, C, rfl, T, n1, .inl ⟨ha, fun dx hdx ne => ?_⟩⟩
    refine ⟨_, rfl, _, rfl, a, C, rfl, T, n2, .inr ⟨dx, _, upd_same, by rw [upd_ne ne, upd_same], (by show 1 ≤ 900; decide), ?_⟩⟩
    refine k dx _ hdx ne (by rw [upd_ne ne.symm, upd_same]) upd_same fun b o e nb => ?_
    rw [upd_ne (ne_of_none e hdx), upd_ne nb, upd_ne (ne_of_none e hdx)]
    exact e
/-- __init__ of an error with one field -/
def spInit1 (K : PySem.W.Frag) (C : Addr) (f1 : Str) : Sp := fun vs H Q _ => ∃ (a : Addr) (y : V), vs = [.ref a, y] ∧ OexC K C ∧ PySem.W.findIn K (.ref C) f1 = some none ∧ H a = some (exo a C none) ∧
  ∀ (d : Addr) (H' : Hp), H d = none → d ≠ a → H' a = some (exo a C (some d)) → H' d = some (exd d [(f1, y)]) → (∀ b o, H b = some o → b ≠ a → H' b = some o) → Q .non H'
theorem scBadYears : FnScope ["self", "years"] ["self", "years"] (defScope sBadYears_init) := ⟨rfl, rfl, rfl, by decide +kernel, rfl, by decide +kernel, by decide +kernel⟩
theorem ok_BadYears {f C : Addr} {fd : FuncData} (F : Fun K "__init__" "BadYears.__init__" sBadYears_init f fd) : FnOk P w K mg base CX0 1 f fd ["self", "years"] (spInit1 K C "years") := by
  refine F.ok scBadYears (fun vs H Q E h => ?_) (fun cdv A outer s H vs Q E hr h => ?_)
  · obtain ⟨a, y, rfl, _⟩ := h
    rfl
  · obtain ⟨a, y, rfl, T, n1, ha, k⟩ := h
    refine ⟨_, pss_one (ps_ost (pv 0) (pv 1)), ?_⟩
    refine ⟨_, rfl, _, rfl, a, C, rfl, T, n1, .inl ⟨ha, fun dx hdx ne => ?_⟩⟩
    refine k dx _ hdx ne upd_same (by rw [upd_ne ne, upd_same]) fun b o e nb => ?_
    rw [upd_ne nb, upd_ne (ne_of_none e hdx)]
    exact e
/-- __init__ of an error with three fields -/
def spInit3 (K : PySem.W.Frag) (C : Addr) (f1 f2 f3 : Str) : Sp := fun vs H Q _ => ∃ (a : Addr) (x y z : V), vs = [.ref a, x, y, z] ∧ OexC K C ∧ PySem.W.findIn K (.ref C) f1 = some none ∧ PySem.W.findIn K (.ref C) f2 = some none ∧ PySem.W.findIn K (.ref C) f3 = some none ∧ H a = some (exo a C none) ∧
  ∀ (d : Addr) (H' : Hp), H d = none → d ≠ a → H' a = some (exo a C (some d)) → H' d = some (exd d [(f3, z), (f2, y), (f1, x)]) → (∀ b o, H b = some o → b ≠ a → H' b = some o) → Q .non H'
theorem scBadHistory : FnScope ["self", "year", "index", "what"] ["self", "year", "index", "what"] (defScope sBadHistory_init) := ⟨rfl, rfl, rfl, by decide +kernel, rfl, by decide +kernel, by decide +kernel⟩
theorem ok_BadHistory {f C : Addr} {fd : FuncData} (F : Fun K "__init__" "BadHistory.__init__" sBadHistory_init f fd) : FnOk P w K mg base CX0 1 f fd ["self", "year", "index", "what"] (spInit3 K C "year" "index" "what") := by
  refine F.ok scBadHistory (fun vs H Q E h => ?_) (fun cdv A outer s H vs Q E hr h => ?_)
  · obtain ⟨a, x, y, z, rfl, _⟩ := h
    rfl
  · obtain ⟨a, x, y, z, rfl, T, n1, n2, n3, ha, k⟩ := h
    refine ⟨_, pss_cons (ps_ost (pv 0) (pv 1)) (pss_cons (ps_ost (pv 0) (pv 2)) (pss_one (ps_ost (pv 0) (pv 3)))), ?_⟩
    refine ⟨_, rfl, _, rfl, a, C, rfl, T, n1, .inl ⟨ha, fun dx hdx ne => ?_⟩⟩
    refine ⟨_, rfl, _, rfl, a, C, rfl, T, n2, .inr ⟨dx, _, upd_same, by rw [upd_ne ne, upd_same], (by show 1 ≤ 900; decide), ?_⟩⟩
    refine ⟨_, rfl, _, rfl, a, C, rfl, T, n3, .inr ⟨dx, _, by rw [upd_ne ne.symm]; exact upd_same, upd_same, (by show 2 ≤ 900; decide), ?_⟩⟩
    refine k dx _ hdx ne (by rw [upd_ne ne.symm, upd_ne ne.symm, upd_same]) upd_same fun b o e nb => ?_
    rw [upd_ne (ne_of_none e hdx), upd_ne (ne_of_none e hdx), upd_ne nb, upd_ne (ne_of_none e hdx)]
    exact e
end
/-- what is known of an error's class -/
structure ErC (P : Program) (w : World) (K : PySem.W.Frag) (mg : Str → Option Value) (base : Heap) (x : Str) (ps : List Str) (C fI : Addr) (fd : FuncData) (sp : Sp) : Prop where
  T : OexC K C
  iC : PySem.W.findIn K (.ref C) "__init__" = some (some (.ref fI))
  tI : PySem.W.typeIn K (.ref fI) = some (.type "function")
  gC : mg x = some (.ref C)
  b : Binds K fd ps []
  G : FnOk P w K mg base CX0 1 fI fd ps sp
  xf : XfC K C
theorem fin2 {K : PySem.W.Frag} {C : Addr} {f1 f2 : Str} (T : OexC K C) (n1 : PySem.W.findIn K (.ref C) f1 = some none) (n2 : PySem.W.findIn K (.ref C) f2 = some none) {H : Hp} {y z : V} {Q : XK} (q : ∀ d H', H d = none → Same H H' → H' d = some (.xd [(f2, z), (f1, y)]) → Q (.ref C) (some d) H') :
    [y, z].length ≤ 1000 ∧ ∀ a, H a = none → spInit2 K C f1 f2 (.ref a :: ([y, z] ++ [])) (upd H a (exo a C none)) (fun v H2 => v = .non ∧ ∃ (d : Addr) (fs : List (Str × V)), H2 a = some (exo a C (some d)) ∧ H2 d = some (exd d fs) ∧ H d = none ∧ Q (.ref C) (some d) (upd (del H2 a) d (.xd fs))) (fun _ _ _ => False) := by
  refine ⟨(by show 2 ≤ 1000; decide), fun a ha => ⟨a, y, z, rfl, T, n1, n2, upd_same, fun d H' hd ne ea ed kp => ⟨rfl, d, _, ea, ed, ?_, ?_⟩⟩⟩
  · rw [upd_ne ne] at hd
    exact hd
  · rw [upd_ne ne] at hd
    refine q d _ hd (fun b o e => ?_) upd_same
    have nba := ne_of_none e ha
    rw [upd_ne (ne_of_none e hd), del_ne nba]
    exact kp b o (by rw [upd_ne nba]; exact e) nba
theorem fin1 {K : PySem.W.Frag} {C : Addr} {f1 : Str} (T : OexC K C) (n1 : PySem.W.findIn K (.ref C) f1 = some none) {H : Hp} {y : V} {Q : XK} (q : ∀ d H', H d = none → Same H H' → H' d = some (.xd [(f1, y)]) → Q (.ref C) (some d) H') :
    [y].length ≤ 1000 ∧ ∀ a, H a = none → spInit1 K C f1 (.ref a :: ([y] ++ [])) (upd H a (exo a C none)) (fun v H2 => v = .non ∧ ∃ (d : Addr) (fs : List (Str × V)), H2 a = some (exo a C (some d)) ∧ H2 d = some (exd d fs) ∧ H d = none ∧ Q (.ref C) (some d) (upd (del H2 a) d (.xd fs))) (fun _ _ _ => False) := by
  refine ⟨(by show 1 ≤ 1000; decide), fun a ha => ⟨a, y, rfl, T, n1, upd_same, fun d H' hd ne ea ed kp => ⟨rfl, d, _, ea, ed, ?_, ?_⟩⟩⟩
  · rw [upd_ne ne] at hd
    exact hd
  · rw [upd_ne ne] at hd
    refine q d _ hd (fun b o e => ?_) upd_same
    have nba := ne_of_none e ha
    rw [upd_ne (ne_of_none e hd), del_ne nba]
    exact kp b o (by rw [upd_ne nba]; exact e) nba
end Kx

set_option maxHeartbeats 4000000
namespace Kx
open PySem PySem.Spec PyProof.Rows L2
/-! enumerate of a tuple -/
theorem meets_enum1 {v : Value} {o : Obj} {H : Heap → Prop} (B : Begins v o H) : Meets (Builtin.«enumerate.__new__» ⟨[.type "enumerate", v], []⟩) (fun _ R s => H s.heap ∧
    R (.ok (.ret (.ref (s.heap.push o).objs.size))) { s with heap := (s.heap.push o).push { cls := .type "enumerate", data := .fields #[.none, .bool false, .ref s.heap.objs.size, rawInt 0, .none, .none] } }) :=
  .of_wp fun prog w A R s got => by
    obtain ⟨hp, g, d, tk, os⟩ := s
    obtain ⟨there, got⟩ := got
    have sub := sub_enumerate
    have step : ∀ {A' : Around} {E : Value → Shared → Prop} {Q : Value → Shared → Prop}, Q (.ref hp.objs.size) ⟨hp.push o, g, d, tk, os⟩ → wpAny (model prog w) A' (pyIter v) Q E ⟨hp, g, d, tk, os⟩ := fun q => B.iter prog w _ _ ⟨hp, g, d, tk, os⟩ _ there q
    wp_walk using step
    refine wpAny_stack_any fun st => wpAny_pure ?_
    split
    · rename_i c _ _ _ _ _
      cases (c == Value.type "enumerate") <;> (wp_walk using step; exact ⟨_, rfl, got⟩)
    · wp_walk using step; exact ⟨_, rfl, got⟩
theorem call_enum1 {prog : Program} {w : World} {A : Around} {E : Value → Shared → Prop} {s : Shared} {v : Value} {o : Obj} {H : Heap → Prop} {Q : Value → Shared → Prop} (B : Begins v o H) (there : H s.heap)
    (next : ∀ h', IsEnum h' (s.heap.objs.size + 1) s.heap.objs.size 0 .none → h'.get? s.heap.objs.size = some o → (∀ b o, s.heap.get? b = some o → h'.get? b = some o) → Q (.ref (s.heap.objs.size + 1)) { s with heap := h' }) :
    wpAny (model prog w) A (call (.type "enumerate") [v]) Q E s := by
  refine callType_new F.called_enumerate (by decide) (F.typeCall_enumerate_1 _) (F.newCall_enumerate_1 _) (fun obj => F.args_object_init_2 obj _) F.entry_enumerate_new (meets_enum1 B) ⟨there, ?_⟩
  have z : (s.heap.push o).objs.size = s.heap.objs.size + 1 := Heap.size_push ..
  show _ ∧ _
  rw [z]
  have he : IsEnum ((s.heap.push o).push { cls := .type "enumerate", data := .fields #[.none, .bool false, .ref s.heap.objs.size, rawInt 0, .none, .none] }) (s.heap.objs.size + 1) s.heap.objs.size 0 .none := by
    have q := Heap.get?_push_size (s.heap.push o) (o := { cls := .type "enumerate", data := .fields #[.none, .bool false, .ref s.heap.objs.size, rawInt 0, .none, .none] }) rfl
    rw [z] at q
    exact q
  exact ⟨⟨_, he, rfl⟩, next _ he (Heap.get?_push_of_some _ (Heap.get?_push_size _ B.free)) fun b o x => Heap.get?_push_of_some _ (Heap.get?_push_of_some _ x)⟩
/-- the tuple at a, each item in a new pair -/
def IteT (K : PySem.W.Frag) (a : Addr) : It :=
  ⟨fun i H => ∃ (xs : List V) (x : V), SqT K H a xs ∧ xs[i]? = some x, fun i H v H' => ∃ T x, v = .ref T ∧ H T = none ∧ H' = upd H T (.tup [.int (i : Nat), x]) ∧ ∀ xs, SqT K H a xs → xs[i]? = some x, fun i H => ∃ xs : List V, SqT K H a xs ∧ xs.length = i⟩
theorem turn_enumT {P : Program} {w : World} {K : PySem.W.Frag} {elts : List Expr} {kk : Nat} {tpos : Pos} (a e it : Addr) :
    Turn P w K (.Tuple elts kk tpos) (IteT K a) [e, it] e (fun i h => (∃ old, IsEnum h e it ((i : Nat) : Int) old) ∧ h.IsTupleIter it a i ∧ e ≠ it ∧ a ≠ it ∧ a ≠ e) where
  mem := by simp
  obj := fun i h st b hb => by
    obtain ⟨⟨old, he⟩, ⟨o, ho, hc, hd⟩, _⟩ := st
    have e' : b = e ∨ b = it := by simpa using hb
    rcases e' with z | z <;> rw [z]
    · exact ⟨_, he, fun v q => nomatch q⟩
    · exact ⟨o, ho, fun v q => by rw [hd] at q; cases q⟩
  keep := fun i h h' st k => let ⟨⟨old, he⟩, hi, r⟩ := st; ⟨⟨old, k e (by simp) _ he⟩, hi.at fun o q => k it (by simp) o q, r⟩
  item := by
    rintro X rfl rfl rfl hc i pins s σ H E I hf ⟨⟨old, he⟩, hit, hne, hai, hae⟩ ⟨xs, x, hq, hx⟩
    obtain ⟨its, rv, p, hz⟩ := I.tuple hq
    obtain ⟨u, hu, ru⟩ := rv.get hx
    have hel : e < s.heap.objs.size := Heap.lt_size he
    have hil : it < s.heap.objs.size := by obtain ⟨_, q, _⟩ := hit; exact Heap.lt_size q
    have lt : i < its.toArray.size := by simpa using (List.getElem?_eq_some_iff.mp hu).1
    have D := Draws.tuple (prog := X.prog) (w := X.w) (A := X.A.in1) (I.ok.hd hc) it a hai its.toArray
    refine wpAny_pyNext_enum_itemC D he ⟨hit, p⟩ lt hne (by simp [hne, hae.symm]) fun v h' tk hv ho st' hT hsz hk => ?_
    obtain rfl : v = u := by
      have q : its.toArray[i]? = some v := hv
      rw [List.getElem?_toArray, hu] at q
      exact (Option.some.inj q).symm
    refine ⟨_, rfl, wpAny_letOwnedTupleGo_enum (s := { s with heap := h', toks := tk + 1 }) ho fun h'' he' sb => ?_⟩
    have hT2 : h''.get? s.heap.objs.size = some { cls := .type "tuple", data := .seq #[.int i tk, v] } := (sb.2 _ (Nat.ne_of_gt hel)).trans hT
    have new : ObjOk X.prog X.w (upd H s.heap.objs.size (.tup [.int (i : Nat), x])) h'' s.heap.objs.size (.tup [.int (i : Nat), x]) := ⟨by show 2 ≤ sizeLine; decide, [.int i tk, v], .cons ⟨_, rfl⟩ (.cons ru .nil), ⟨_, hT2, rfl, _, rfl⟩⟩
    have I1 : Inv X pins σ (upd H s.heap.objs.size (.tup [.int (i : Nat), x])) { s with heap := h'', toks := tk + 1 } :=
      I.turnedNew (ch := [e, it]) (fun b ob hb q => (sb.2 b (fun z => hb (by simp [z]))).trans (hk b ob (fun z => hb (by simp [z])) (fun z => hb (by simp [z])) q)) hf (Nat.le_refl _) new
    refine ⟨.ref s.heap.objs.size, _, I1, rfl, ⟨_, x, rfl, I.hok.fresh (Nat.le_refl _), rfl, fun ys hy => ?_⟩, ⟨⟨v, he'⟩, st'.1.at fun o q => (sb.2 it (Ne.symm hne)).trans q, hne, hai, hae⟩, fun b hb => ?_⟩
    · rw [I.tuple_inj hy hq]
      exact hx
    · have lt : b < s.heap.objs.size := by
        have e' : b = e ∨ b = it := by simpa using hb
        rcases e' with z | z <;> rw [z]
        · exact hel
        · exact hil
      rw [upd_ne (Nat.ne_of_lt lt)]
      exact (hf b hb).1
  done := by
    rintro X rfl rfl rfl hc i pins s σ H E I hf ⟨⟨old, he⟩, hit, hne, hai, hae⟩ ⟨xs, hq, hx⟩
    obtain ⟨its, rv, p, hz⟩ := I.tuple hq
    obtain ⟨f0, f1, f2, f3, f4, f5⟩ := hf it (by simp)
    have hl := rv.length
    have D := Draws.tuple (prog := X.prog) (w := X.w) (A := X.A.in1) (I.ok.hd hc) it a hai its.toArray
    have n : its.toArray.size = i := by rw [List.size_toArray, ← hl, hx]
    rw [n] at D
    exact wpAny_pyNext_enum_endD D he ⟨hit, p⟩ fun h' eb => ⟨rfl, I.turned (t' := s.toks) (fun b o hb q => eb b o hb q) f0 f1 f3 f4 f5⟩
  self := fun A i s Q E st h => let ⟨⟨_, he⟩, _⟩ := st; wpAny_pyIter_enum he h
/-- enumerate of a list or a tuple -/
def iEnumB (K : PySem.W.Frag) (ta : TA) : TI := fun σ H R => ta σ H fun vs H1 => ∃ a xs, vs = [.ref a] ∧ ((SqL K H1 a xs ∧ R (Ite K a) H1) ∨ (SqT K H1 a xs ∧ R (IteT K a) H1))
theorem pi_enumB {X : Cx} {e : Expr} {ta : TA} {p pos tpos : Pos} {elts : List Expr} {kk : Nat} (hg : Gl X "enumerate") (hm : X.mg "enumerate" = none) (ha : PA X [e] ta) (hs : starEach [e] X.env = [(false, eval e X.env)] := by rfl) :
    PI X (.Tuple elts kk tpos) (.Call (.Name "enumerate" p) [e] [] pos) (iEnumB X.K ta) := by
  refine ⟨fun pins s σ H R I h => Call_ (ld_blt I hg hm boot_enumerate (callWith_type1 (thn (ha.run pos pins s σ H _ I h) fun us s1 ⟨vs, H1, I1, r1, q1⟩ => ?_) hs rfl))⟩
  obtain ⟨a, xs, rfl, q⟩ := q1
  rw [Vals.ref1 r1]
  have fresh : ∀ {h' : Heap}, (∀ b o, s1.heap.get? b = some o → h'.get? b = some o) → Inv X pins σ H1 { s1 with heap := h' } := fun hk => I1.kept (t' := s1.toks) hk
  have fp : ∀ b ∈ [s1.heap.objs.size + 1, s1.heap.objs.size], FpOk X pins H1 b := fun b hb => by
    have e' : b = s1.heap.objs.size + 1 ∨ b = s1.heap.objs.size := by simpa using hb
    have le : s1.heap.objs.size ≤ b := by
      rcases e' with z | z <;> rw [z]
      · exact Nat.le_succ _
      · exact Nat.le_refl _
    exact I1.fpOk le (I1.hok.fresh le)
  rcases q with ⟨hq, q⟩ | ⟨hq, q⟩
  · obtain ⟨its, rv, pl, hz⟩ := I1.list hq
    exact call_enumerate_list pl.isList fun h' he hit hsz hk => wpAny_pyIter_enum he ⟨_, _, _, _, H1, rfl, fresh hk, turn_enum a (s1.heap.objs.size + 1) s1.heap.objs.size, ⟨⟨.none, he⟩, hit, Nat.succ_ne_self _⟩, fp, q⟩
  · obtain ⟨its, rv, pl, hz⟩ := I1.tuple hq
    obtain ⟨oa, ho, _⟩ := id pl
    have lt : a < s1.heap.objs.size := Heap.lt_size ho
    exact call_enum1 (begins_tuple a its.toArray) pl fun h' he hit hk => wpAny_pyIter_enum he ⟨_, _, _, _, H1, rfl, fresh hk, turn_enumT a (s1.heap.objs.size + 1) s1.heap.objs.size, ⟨⟨.none, he⟩, ⟨_, hit, rfl, rfl⟩, Nat.succ_ne_self _, Nat.ne_of_lt lt, Nat.ne_of_lt (Nat.lt_succ_of_lt lt)⟩, fp, q⟩
/-- what a for loop over J asks -/
abbrev Runs (J : It) (g : TG) (tb : TS) (D : Ends) (σ : L2.St) (H : Hp) : Prop := ∃ U : Nat → Nat → L2.St → Hp → Prop, (∃ m, U 0 m σ H) ∧ ∀ i m σ H, U i m σ H → (J.stop i H ∧ D.nx σ H) ∨ (J.go i H ∧ ∃ N : L2.St → Hp → Prop, (∀ σ' H', N σ' H' → ∃ m', m' < m ∧ U (i + 1) m' σ' H') ∧
  ∀ x H', J.yld i H x H' → g x σ H' fun σ2 H2 => tb { D with nx := N, ct := N, bk := D.nx } σ2 H2)
/-- over enumerate of a list or a tuple that stands still -/
theorem for_enumB {K : PySem.W.Frag} {a : Addr} {xs : List V} {g : TG} {tb : TS} {D : Ends} {σ : L2.St} {H : Hp} (W : Nat → L2.St → Hp → Prop) (start : W 0 σ H) (still : (∀ i σ H, W i σ H → SqL K H a xs) ∨ (∀ i σ H, W i σ H → SqT K H a xs))
    (turn : ∀ i x σ H T, xs[i]? = some x → W i σ H → H T = none → g (.ref T) σ (upd H T (.tup [.int (i : Nat), x])) fun σ2 H2 => tb { D with nx := W (i + 1), ct := W (i + 1), bk := D.nx } σ2 H2) (after : ∀ σ H, W xs.length σ H → D.nx σ H) :
    (SqL K H a xs ∧ Runs (Ite K a) g tb D σ H) ∨ (SqT K H a xs ∧ Runs (IteT K a) g tb D σ H) := by
  rcases still with still | still
  · refine .inl ⟨still _ _ _ start, fun i m σ H => m + i = xs.length ∧ W i σ H, ⟨xs.length, by omega, start⟩, fun i m σ H u => ?_⟩
    obtain ⟨e, u⟩ := u
    cases m with
    | zero =>
      obtain rfl : i = xs.length := by omega
      exact .inl ⟨⟨xs, still _ _ _ u, Nat.le_refl _⟩, after _ _ u⟩
    | succ m =>
      have lt : i < xs.length := by omega
      refine .inr ⟨⟨xs, xs[i], still _ _ _ u, List.getElem?_eq_getElem lt⟩, W (i + 1), fun σ' H' u' => ⟨m, Nat.lt_succ_self _, by omega, u'⟩, fun x H' y => ?_⟩
      obtain ⟨T, z, rfl, free, rfl, same⟩ := y
      exact turn i z σ H T (same xs (still _ _ _ u)) u free
  · refine .inr ⟨still _ _ _ start, fun i m σ H => m + i = xs.length ∧ W i σ H, ⟨xs.length, by omega, start⟩, fun i m σ H u => ?_⟩
    obtain ⟨e, u⟩ := u
    cases m with
    | zero =>
      obtain rfl : i = xs.length := by omega
      exact .inl ⟨⟨xs, still _ _ _ u, rfl⟩, after _ _ u⟩
    | succ m =>
      have lt : i < xs.length := by omega
      refine .inr ⟨⟨xs, xs[i], still _ _ _ u, List.getElem?_eq_getElem lt⟩, W (i + 1), fun σ' H' u' => ⟨m, Nat.lt_succ_self _, by omega, u'⟩, fun x H' y => ?_⟩
      obtain ⟨T, z, rfl, free, rfl, same⟩ := y
      exact turn i z σ H T (same xs (still _ _ _ u)) u free
/-- one of two targets' rules -/
theorem pg_or {X : Cx} {t : Expr} {g g' : TG} (h : PG X t g) (h' : PG X t g') : PG X t (fun v σ H Q => g v σ H Q ∨ g' v σ H Q) :=
  ⟨fun pins s σ H v u Q I r q => q.elim (fun q => h.run pins s σ H v u Q I r q) fun q => h'.run pins s σ H v u Q I r q⟩
end Kx

set_option maxHeartbeats 4000000
namespace Kx
open PySem PySem.Spec PyProof.Rows L2
section
variable {X : Cx} {C g : Addr} {sp : Sp} {E : XK} {CXx : CXT} {n : Nat}
/-- an instance as the library's lemmas know it -/
theorem inst_of {pins : List (Addr × Obj)} {σ : L2.St} {H : Hp} {s : Shared} {a dx : Addr} {fs : List (Str × V)} (I : Inv X pins σ H s) (h : H a = some (.ins C dx fs)) : ∃ ox od, PySem.W.InstAt s.heap a ox C od := by
  obtain ⟨mA, J, _⟩ := ins_get I.hok h
  obtain ⟨od, J, _⟩ := J.look
  exact ⟨_, _, J⟩
/-- x in o, o an instance whose class has its own __contains__ -/
def rInOwn (neg : Bool) (C : Addr) (sp : Sp) (E : XK) : R2 := fun x y H Q => ∃ a dx fs, y = .ref a ∧ H a = some (.ins C dx fs) ∧ sp [.ref a, x] H (fun z H' => ∃ b, z = .bl b ∧ Q (.bl (if neg then !b else b)) H') E
theorem op_inOwn (hs : PySem.W.findIn X.K (.ref C) "__contains__" = some (some (.ref g))) (hf : PySem.W.isFn X.K (.ref g) = true) (F : FnR X.prog X.w X.K X.mg X.base CXx n g sp) (hr : Room n X.A) (hx : Passes CXx X E) : OpR X (compareOp .In) (rInOwn false C sp E) := by
  intro pins s σ H x y v u Q I rx ry h
  obtain ⟨a, dx, fs, rfl, ha, q⟩ := h
  obtain rfl : u = Value.ref a := ry
  obtain ⟨ox, od, J⟩ := inst_of I ha
  obtain ⟨m, hF⟩ := I.fr
  refine PySem.W.in_K hF I.ok.mod.kin J hs hf (wpAny_mono (wpAny_call (run_fnR (us := [.ref a, v]) (vs := [.ref a, x]) F hr hx I (.cons rfl (.cons rx .nil)) q)) (fun w s' z => ?_) fun _ _ x => x)
  obtain ⟨z', H', I', rz, b, rfl, qz⟩ := z
  obtain rfl : w = Value.bool b := rz
  exact wpAny_truthy_bool ⟨.bl b, H', I', rfl, qz⟩
theorem op_notInOwn (hs : PySem.W.findIn X.K (.ref C) "__contains__" = some (some (.ref g))) (hf : PySem.W.isFn X.K (.ref g) = true) (F : FnR X.prog X.w X.K X.mg X.base CXx n g sp) (hr : Room n X.A) (hx : Passes CXx X E) : OpR X (compareOp .NotIn) (rInOwn true C sp E) := by
  intro pins s σ H x y v u Q I rx ry h
  obtain ⟨a, dx, fs, rfl, ha, q⟩ := h
  obtain rfl : u = Value.ref a := ry
  obtain ⟨ox, od, J⟩ := inst_of I ha
  obtain ⟨m, hF⟩ := I.fr
  refine PySem.W.notIn_K hF I.ok.mod.kin J hs hf (wpAny_mono (wpAny_call (run_fnR (us := [.ref a, v]) (vs := [.ref a, x]) F hr hx I (.cons rfl (.cons rx .nil)) q)) (fun w s' z => ?_) fun _ _ x => x)
  obtain ⟨z', H', I', rz, b, rfl, qz⟩ := z
  obtain rfl : w = Value.bool b := rz
  exact wpAny_truthy_bool ⟨.bl (!b), H', I', rfl, qz⟩
/-- len(o) by an own __len__ -/
def rLenOwn (C : Addr) (sp : Sp) (E : XK) : List V → Hp → VK → Prop := fun xs H Q => ∃ a dx fs, xs = [.ref a] ∧ H a = some (.ins C dx fs) ∧ sp [.ref a] H (fun z H' => ∃ k : Int, z = .int k ∧ 0 ≤ k ∧ k < 2 ^ 63 ∧ Q (.int k) H') E
theorem call_lenOwn (hs : PySem.W.findIn X.K (.ref C) "__len__" = some (some (.ref g))) (hf : PySem.W.isFn X.K (.ref g) = true) (F : FnR X.prog X.w X.K X.mg X.base CXx n g sp) (hr : Room (n + 1) X.A) (hx : Passes CXx X E) : CallR X (.builtin "len") (rLenOwn C sp E) := by
  intro pins s σ H xs us Q I r h
  obtain ⟨a, dx, fs, rfl, ha, q⟩ := h
  rw [Vals.ref1 r]
  obtain ⟨ox, od, J⟩ := inst_of I ha
  obtain ⟨m, hF⟩ := I.fr
  have run : codeAny (model X.prog X.w) X.A.in1 (.call (.ref g) ⟨[.ref a], []⟩) (fun r s' => match r with | .ok (.ret v) => EP X pins σ (fun z H' => ∃ k : Int, z = .int k ∧ 0 ≤ k ∧ k < 2 ^ 63 ∧ Q (.int k) H') v s' | .ok _ => False | .error e => X.xe e s') s := by
    refine codeAny_mono (F X.A.in1 X.stack s H [.ref a] [.ref a] _ E hr.in1 I.env0.in1 (.cons rfl .nil) q) fun r s' hq => ?_
    rcases r with e | (_ | _ | _ | u)
    · exact hx pins σ H s e s' I hq
    · exact hq.elim
    · exact hq.elim
    · exact hq.elim
    · exact I.after hq
  refine PySem.W.len_K hF I.ok.mod.kin J hs hf (wpAny_mono (wpAny_call run) (fun w s' z => ?_) fun _ _ x => x)
  obtain ⟨z', H', I', rz, k, rfl, k0, k1, qz⟩ := z
  obtain ⟨t, rfl⟩ := (show ∃ t, w = Value.int k t from rz)
  exact ⟨⟨k0, k1⟩, .int k, H', I'.tok _, ⟨_, rfl⟩, qz⟩
/-- o == y by an own __eq__, y any thing that is not of a class below -/
def rEqOwn (K : PySem.W.Frag) (C : Addr) (sp : Sp) (E : XK) : R2 := fun x y H Q => ∃ a dx fs, x = .ref a ∧ H a = some (.ins C dx fs) ∧ ((∃ b dy gs C', y = .ref b ∧ H b = some (.ins C' dy gs) ∧ PySem.W.notFirst K C (.ref C') = true) ∨ (∃ b ys, y = .ref b ∧ H b = some (.tup ys) ∧ PySem.W.notFirst K C (.type "tuple") = true)) ∧
  sp [.ref a, y] H (fun z H' => ∃ b, z = .bl b ∧ Q (.bl b) H') E
theorem op_eqOwn (hs : PySem.W.findIn X.K (.ref C) "__eq__" = some (some (.ref g))) (hf : PySem.W.isFn X.K (.ref g) = true) (F : FnR X.prog X.w X.K X.mg X.base CXx n g sp) (hr : Room n X.A) (hx : Passes CXx X E) : OpR X (compareOp .Eq) (rEqOwn X.K C sp E) := by
  intro pins s σ H x y v u Q I rx ry h
  obtain ⟨a, dx, fs, rfl, ha, hy, q⟩ := h
  obtain rfl : v = Value.ref a := rx
  obtain ⟨ox, od, J⟩ := inst_of I ha
  obtain ⟨m, hF⟩ := I.fr
  have go : ∀ tb, PySem.W.Looks (model X.prog X.w) s.heap (typeOf u) tb → PySem.W.notFirst X.K C tb = true → wpAny (model X.prog X.w) X.A (compareOp .Eq (.ref a) u) (EP X pins σ Q) X.xe s := fun tb hb hn => by
    refine PySem.W.cmp_K (op := .Eq) hr.units0 hF I.ok.mod.kin J hb hn hs hf (wpAny_mono (wpAny_call (run_fnR (us := [.ref a, u]) (vs := [.ref a, y]) F hr hx I (.cons rfl (.cons ry .nil)) q)) (fun w s' z => ?_) fun _ _ x => x)
    obtain ⟨z', H', I', rz, b, rfl, qz⟩ := z
    obtain rfl : w = Value.bool b := rz
    exact ⟨.bl b, H', I', rfl, qz⟩
  rcases hy with ⟨b, dy, gs, C', rfl, hb, hn⟩ | ⟨b, ys, rfl, hb, hn⟩
  · obtain rfl : u = Value.ref b := ry
    obtain ⟨ox', od', J'⟩ := inst_of I hb
    exact go _ J'.type hn
  · obtain rfl : u = Value.ref b := ry
    obtain ⟨_, _, _, o, h1, h2, _⟩ := (show ObjOk X.prog X.w H s.heap b (.tup ys) from I.hok b _ hb)
    exact go _ (PySem.W.kitAt_ty _ _ ⟨o, h1, h2⟩) hn
end
/-! != by the own __eq__ -/
section
variable {prog : Program} {w : World} {A : Around} {Er : Value → Shared → Prop} {s : Shared} {K : PySem.W.Frag} {x D f : Addr} {ox : Obj} {od : Option Obj} {b tb : Value}
theorem bound_ne {M : Model} {args : List Value} {Q : Option Value → Shared → Prop} (Y : K.In s.heap) (J : PySem.W.InstAt s.heap x ox D od) (hs : PySem.W.findIn K (.ref D) "__ne__" = some (some (.builtin "object.__ne__")))
    (h : wpAny M A (call (.builtin "object.__ne__") (.ref x :: args)) (fun v => Q (some v)) Er s) : wpAny M A (callSpecialIfBound? (.ref x) "__ne__" args) Q Er s := by
  simp only [callSpecialIfBound?, bindSpecialIfBound?]
  refine wpAny_holding (wpAny_bind (wpAny_bind (wpAny_bind (J.type.here ((PySem.W.looks_findIn Y hs).here (wpAny_bind (wpAny_askSetting (wpAny_ite ?_))))))))
  have fin : wpAny M A (call (.builtin "object.__ne__") ([.ref x] ++ args) >>= fun v => pure (some v)) Q Er s := wpAny_bind (wpAny_mono h (fun v s' z => wpAny_pure z) fun _ _ z => z)
  split
  · exact wpAny_bind (wpAny_of_eq (F.cmp_object.ne.bind _) (wpAny_pure (by exact fin)))
  · exact wpAny_tryCatch (wpAny_bind (wpAny_of_eq (F.cmp_object.ne.bind _) (wpAny_pure (by exact fin))))
/-- what the own __eq__ hands back, turned about -/
def NeBack (Q : Value → Shared → Prop) (v : Value) (s' : Shared) : Prop := match v with
  | .bool c => Q (.bool (!c)) s'
  | _ => False
theorem call_ne {Q : Value → Shared → Prop} (hu : A.units + 64 < cLine) (Y : K.In s.heap) (J : PySem.W.InstAt s.heap x ox D od) (hm : PySem.W.mroIn K D (.type "object") = some true) (he : PySem.W.findIn K (.ref D) "__eq__" = some (some (.ref f))) (hf : PySem.W.isFn K (.ref f) = true)
    (h : wpAny (model prog w) A.in1 (call (.ref f) [.ref x, b]) (NeBack Q) Er s) : wpAny (model prog w) A (call (.builtin "object.__ne__") [.ref x, b]) Q Er s := by
  refine wpAny_call (codeAny_call_builtin F.cmp_object.ne.plain F.cmpEntry_ne (PySem.W.check_slot F.cmpKind_ne F.cmpSplit_ne (J.type.andThen (PySem.W.looks_mroIn Y hm)) (F.cmpArgs_ne _ _) ?_))
  unfold Builtin.«object.__ne__»
  refine wpAny_bind (m := slotArgs "__ne__" 1 _) (wpAny_of_eq (a := (Value.ref x, [b])) rfl ?_)
  dsimp only
  refine wpAny_bind (wpAny_cRoomFor (A := A.in1) (by show A.units + 1 < cLine; omega) ?_)
  refine wpAny_bind (PySem.W.ifBound_K Y J he hf (wpAny_mono h (fun v s' hv => ?_) fun _ _ z => z))
  cases v with
  | bool c => exact wpAny_bind (wpAny_truthy_bool (wpAny_pure hv))
  | _ => exact hv.elim
theorem rich_ne {h₀ : Heap} {L : Addr} {m : Str → Option Value} {Q : Value → Shared → Prop} (hu : A.units + 64 < cLine) (F₀ : Fr h₀ L s.heap m) (X₀ : K.In h₀) (J : PySem.W.InstAt s.heap x ox D od) (hb : PySem.W.Looks (model prog w) s.heap (typeOf b) tb) (hn : PySem.W.notFirst K D tb = true)
    (hm : PySem.W.mroIn K D (.type "object") = some true) (hne : PySem.W.findIn K (.ref D) "__ne__" = some (some (.builtin "object.__ne__"))) (he : PySem.W.findIn K (.ref D) "__eq__" = some (some (.ref f))) (hf : PySem.W.isFn K (.ref f) = true)
    (h : wpAny (model prog w) A.in1 (call (.ref f) [.ref x, b]) (NeBack Q) Er s) : wpAny (model prog w) A (richCompare .NotEq (.ref x) b) Q Er s := by
  have Y := X₀.keeps F₀.keep
  have one : wpAny (model prog w) A (tryCompare (.ref x) "__ne__" b) (fun r s' => ∃ c, r = some (.bool c) ∧ Q (.bool c) s') Er s := by
    unfold tryCompare
    refine wpAny_bind (bound_ne Y J hne (call_ne hu Y J hm he hf (wpAny_mono h (fun v s' hv => ?_) fun _ _ z => z)))
    cases v with
    | bool c => exact wpAny_pure ⟨!c, rfl, hv⟩
    | _ => exact hv.elim
  unfold richCompare
  simp only [oneThing_ref]
  refine wpAny_holding (wpAny_bind (wpAny_cRoomFor (by omega) (wpAny_bind (J.type.here (wpAny_bind (hb.here ?_))))))
  have fin : ∀ (r : Option Value) (s' : Shared), (∃ c, r = some (.bool c) ∧ Q (.bool c) s') → ∃ c, r = some (.bool c) ∧ Q (.bool c) s' := fun _ _ z => z
  split
  · rename_i q
    have e : PySem.W.subIn K tb (.ref D) = some false := by
      rcases Bool.or_eq_true_iff.mp hn with e | e
      · rw [beq_iff_eq.mp e] at q; simp at q
      · exact beq_iff_eq.mp e
    refine wpAny_bind ((PySem.W.looks_subIn Y e).here ?_)
    simp only [Bool.false_eq_true, if_false]
    refine wpAny_bind (wpAny_mono one (fun r s' z => ?_) fun _ _ e => e)
    obtain ⟨v, rfl, hq⟩ := fin r s' z
    exact wpAny_pure hq
  · refine wpAny_bind (wpAny_pure ?_)
    simp only [Bool.false_eq_true, if_false]
    refine wpAny_bind (wpAny_mono one (fun r s' z => ?_) fun _ _ e => e)
    obtain ⟨v, rfl, hq⟩ := fin r s' z
    exact wpAny_pure hq
end
section
variable {X : Cx} {C g : Addr} {sp : Sp} {E : XK} {CXx : CXT} {n : Nat}
/-- o != y by an own __eq__, both of one class -/
def rNeOwn (C : Addr) (sp : Sp) (E : XK) : R2 := fun x y H Q => ∃ a dx fs b dy gs, x = .ref a ∧ H a = some (.ins C dx fs) ∧ y = .ref b ∧ H b = some (.ins C dy gs) ∧ sp [.ref a, .ref b] H (fun z H' => ∃ c, z = .bl c ∧ Q (.bl (!c)) H') E
theorem op_neOwn (hm : PySem.W.mroIn X.K C (.type "object") = some true) (hne : PySem.W.findIn X.K (.ref C) "__ne__" = some (some (.builtin "object.__ne__"))) (hs : PySem.W.findIn X.K (.ref C) "__eq__" = some (some (.ref g))) (hf : PySem.W.isFn X.K (.ref g) = true) (F : FnR X.prog X.w X.K X.mg X.base CXx n g sp) (hr : Room (n + 1) X.A) (hx : Passes CXx X E) :
    OpR X (compareOp .NotEq) (rNeOwn C sp E) := by
  intro pins s σ H x y v u Q I rx ry h
  obtain ⟨a, dx, fs, b, dy, gs, rfl, ha, rfl, hb, q⟩ := h
  obtain rfl : v = Value.ref a := rx
  obtain rfl : u = Value.ref b := ry
  obtain ⟨ox, od, J⟩ := inst_of I ha
  obtain ⟨ox', od', J'⟩ := inst_of I hb
  obtain ⟨m, hF⟩ := I.fr
  have run : codeAny (model X.prog X.w) X.A.in1 (.call (.ref g) ⟨[.ref a, .ref b], []⟩) (fun r s' => match r with | .ok (.ret v) => EP X pins σ (fun z H' => ∃ c, z = .bl c ∧ Q (.bl (!c)) H') v s' | .ok _ => False | .error e => X.xe e s') s := by
    refine codeAny_mono (F X.A.in1 X.stack s H [.ref a, .ref b] [.ref a, .ref b] _ E hr.in1 I.env0.in1 (.cons rfl (.cons rfl .nil)) q) fun r s' hq => ?_
    rcases r with e | (_ | _ | _ | u)
    · exact hx pins σ H s e s' I hq
    · exact hq.elim
    · exact hq.elim
    · exact hq.elim
    · exact I.after hq
  refine rich_ne hr.units hF I.ok.mod.kin J J'.type (by simp [PySem.W.notFirst]) hm hne hs hf (wpAny_mono (wpAny_call run) (fun w s' z => ?_) fun _ _ x => x)
  obtain ⟨z', H', I', rz, c, rfl, qz⟩ := z
  obtain rfl : w = Value.bool c := rz
  exact ⟨.bl (!c), H', I', rfl, qz⟩
end
end Kx

set_option maxHeartbeats 4000000
namespace Kx
open PySem PySem.Spec PyProof.Rows L2
/-- a def's promise that may speak of what runs around the call, and of the state at it -/
structure FnA (P : Program) (w : World) (K : PySem.W.Frag) (mg : Str → Option Value) (base : Heap) (CX : CXT) (k : Nat) (f : Addr) (fd : FuncData) (ps : List Str) (sp : Around → Shared → Sp) : Prop where
  len : ∀ A s vs H Q E, sp A s vs H Q E → vs.length = ps.length
  run : ∀ (A : Around) (outer : List Env) (s : Shared) (H : Hp) (args : Args) (us : List Value) (vs : List V) (Q : VK) (E : XK), Room k A → Env0 P w K mg base A outer s H → BindsTo s fd args (ps.zip us) → Vals vs us → sp A s vs H Q E →
    codeAny (model P w) A (.call (.ref f) args) (CR CX outer P w H s Q E) s
section
variable {P : Program} {w : World} {K : PySem.W.Frag} {mg : Str → Option Value} {base : Heap}
theorem okA {CX : CXT} {x qual : Str} {st : Stmt} {f : Addr} {fd : FuncData} {N ps : List Str} {k : Nat} {sp : Around → Shared → Sp} (F : Fun K x qual st f fd) (S : FnScope N ps (defScope st)) (len : ∀ A s vs H Q E, sp A s vs H Q E → vs.length = ps.length)
    (body : ∀ (cdv : Value) (A : Around) (outer : List Env) (s : Shared) (H : Hp) (vs : List V) (Q : VK) (E : XK), Room k (A.deeper (envOfC qual (defScope st) s.heap.objs.size f cdv)) → sp A s vs H Q E →
      ∃ t, PSs (cxOf CX P w K mg base N qual (defScope st) f cdv A outer s H E) (defBody st) t ∧ t { nx := fun _ H' => Q .non H', rt := Q } (start N vs) H) : FnA P w K mg base CX (k + 1) f fd ps sp := by
  obtain ⟨oc, od, kV, doc, pm, an, cdv, ct, osl, rfl, lk, hcd⟩ := F.ex
  refine ⟨len, fun A outer s H args us vs Q E hr e0 bind r h => ?_⟩
  have KX : K.In s.heap := e0.mod.kin.keeps fun b o e => (e0.bs b o e).1
  have noLim : s.heap.NoLimit := e0.mod.nolimit.keeps fun b o e => (e0.bs b o e).1
  have kinds : ∀ z ∈ ps.zip us, (defScope st).names.lookup z.1 = some .local ∨ ((defScope st).names.lookup z.1 = some .cell ∧ ((cellsFrom (s.heap.objs.size + 1) (defScope st).names []).lookup z.1).isSome = true) := fun ⟨n, v⟩ hz => by
    rcases S.par n (List.of_mem_zip hz).1 with q | q
    · exact .inl q
    · exact .inr ⟨q, PySem.W.cellsFrom_some _ _ _ (.inl q)⟩
  refine codeAny_call_function hr.depth (KX _ _ lk) rfl S.co S.gen rfl (PySem.W.codeRec_of KX hcd) (bind _ _ _ _ (wpAny_newFunctionEnv_cells S.kind kinds fun env he s1 z => ?_))
  subst he
  obtain ⟨t, ht, hq⟩ := body cdv A outer s H vs Q E (hr.deeper _) h
  refine ⟨noLim.keeps z.toInCall.keep, codeAny_func (wpAny_mono (ht.run [] s1 (start N vs) H _ (inv_start S hr.hd e0 (len _ _ _ _ _ _ h) r z) hq) (fun fl s' got => ?_) fun e s' got => got)⟩
  cases fl with
  | ret u => obtain ⟨v, σ', H', J, rv, q⟩ := got; exact ⟨v, H', J.os, J.bare, J.base, J.hok, rv, q⟩
  | next => obtain ⟨σ', H', J, q⟩ := got; exact ⟨V.non, H', J.os, J.bare, J.base, J.hok, rfl, q⟩
  | brk => obtain ⟨_, _, _, q⟩ := got; exact q.elim
  | cont => obtain ⟨_, _, _, q⟩ := got; exact q.elim
end
/-! iter of a tuple, and an own __iter__ that hands it back -/
/-- at it: an iterator over the tuple at t, at its beginning -/
def TitO (t it : Addr) : HO := .ext fun h => h.get? it = some { cls := .type "tuple_iterator", data := .fields #[.ref t, .int 0 0] }
theorem titO_ok {P : Program} {w : World} {H : Hp} {h : Heap} {t it : Addr} (e : h.get? it = some { cls := .type "tuple_iterator", data := .fields #[.ref t, .int 0 0] }) : ObjOk P w H h it (TitO t it) := ⟨e, ⟨_, e⟩, fun _ _ p k => k _ p⟩
section
variable {X : Cx}
def rIterT (K : PySem.W.Frag) (n : Nat) : List V → Hp → VK → Prop := fun xs H Q => ∃ (t : Addr) (zs : List V), xs = [.ref t] ∧ SqT K H t zs ∧ ∀ it, H it = none → n ≤ it → Q (.ref it) (upd H it (TitO t it))
theorem call_iterT : CallR X (.builtin "iter") (rIterT X.K X.s_0.heap.objs.size) := by
  intro pins s σ H xs us Q I r h
  obtain ⟨t, zs, rfl, hq, q⟩ := h
  rw [Vals.ref1 r]
  obtain ⟨its, rv, pl, hz⟩ := I.tuple hq
  refine Calls.call_function_entry (by decide +kernel) (by decide +kernel) PySem.W.kdk_entry_iter (PySem.W.kdk_args_iter _) ?_
  unfold Builtin.«iter»
  refine wpAny_bind (m := someArgs "iter" 1 2 _) (wpAny_of_eq (a := [Value.ref t]) (by first | rfl | kernel_rfl!) ?_)
  show wpAny _ _ (pyIter (.ref t) >>= _) _ _ _; refine wpAny_bind (wpAny_pyIter_tuple pl (wpAny_pure ⟨_, rfl, ?_⟩))
  exact ⟨.ref s.heap.objs.size, _, I.laid (t' := s.toks) (fun b u e => Heap.get?_push_of_some _ e) (Nat.le_refl _) (titO_ok (Heap.get?_push_size _ rfl)), rfl, q _ (I.hok.fresh (Nat.le_refl _)) I.sz⟩
/-- what an own __iter__ promises that hands back iter(t), t a tuple -/
def spIterT (K : PySem.W.Frag) (C : Addr) (T : List (Str × V) → Addr → List V → Prop) : Around → Shared → Sp := fun _ s vs H Q _ => ∃ (a dx : Addr) (fs : List (Str × V)), vs = [.ref a] ∧ H a = some (.ins C dx fs) ∧ ∃ t zs, T fs t zs ∧ SqT K H t zs ∧
  ∀ it, H it = none → s.heap.objs.size ≤ it → Q (.ref it) (upd H it (TitO t it))
/-- for x in o, o an instance with such an __iter__ -/
def iOwnT (K : PySem.W.Frag) (C : Addr) (T : List (Str × V) → Addr → List V → Prop) (te : TE) : TI := fun σ H R => te σ H fun x H1 => ∃ a dx fs t zs, x = .ref a ∧ H1 a = some (.ins C dx fs) ∧ T fs t zs ∧ SqT K H1 t zs ∧ R (Itt K t) H1
theorem pi_ownT {C g : Addr} {fd : FuncData} {n : Nat} {T : List (Str × V) → Addr → List V → Prop} {tg e : Expr} {te : TE} (hs : PySem.W.findIn X.K (.ref C) "__iter__" = some (some (.ref g))) (hf : PySem.W.isFn X.K (.ref g) = true) (F : FnA X.prog X.w X.K X.mg X.base CX0 n g fd ["self"] (spIterT X.K C T)) (hb : Binds X.K fd ["self"] []) (hr : Room n X.A) (he : PE X e te) :
    PI X tg e (iOwnT X.K C T te) := by
  refine ⟨fun pins s σ H R I h => thn (he.run pins s σ H _ I h) fun v s1 ⟨x, H1, I1, r1, q1⟩ => ?_⟩
  obtain ⟨a, dx, fs, t, zs, rfl, ha, hT, hq, q⟩ := q1
  obtain rfl : v = Value.ref a := r1
  obtain ⟨mA, J, _⟩ := ins_get I1.hok ha
  obtain ⟨od, J, _⟩ := J.look
  obtain ⟨m, hF⟩ := I1.fr
  refine PySem.W.owit_iter hF I1.ok.mod.kin J hs hf (wpAny_call (codeAny_mono (F.run X.A X.stack s1 H1 ⟨[.ref a], []⟩ [.ref a] [.ref a] (fun z H2 => ∃ it, z = .ref it ∧ H1 it = none ∧ s1.heap.objs.size ≤ it ∧ H2 = upd H1 it (TitO t it)) (fun _ _ _ => False) hr I1.env0
    (by have := hb s1 [.ref a] I1.kIn rfl; simpa using this) (.cons rfl .nil) ⟨a, dx, fs, rfl, ha, t, zs, hT, hq, fun it h1 h2 => ⟨it, rfl, h1, h2, rfl⟩⟩) fun r s2 got => ?_))
  rcases r with e | (_ | _ | _ | u)
  · exact got.elim
  · exact got.elim
  · exact got.elim
  · exact got.elim
  · obtain ⟨z, H2, I2, rz, it, rfl, h1, h2, rfl⟩ := I1.after got
    obtain rfl : u = Value.ref it := rz
    have at_ : s2.heap.get? it = some { cls := .type "tuple_iterator", data := .fields #[.ref t, .int 0 0] } := (I2.hok it _ upd_same).1
    have I3 : Inv X pins σ H1 s2 := by
      have z := ItX.inv_drop I2 (φ := _) upd_same
      rw [ItX.dropH_upd h1] at z
      exact z
    refine wpAny_bind (wpAny_typeOf (T := "tuple_iterator") ⟨_, at_, rfl⟩ (wpAny_of_eq PySem.F.slot_tuple_iterator_next.lookup ?_))
    exact ⟨it, [it], _, _, H1, rfl, I3, turn_tuple t it, ⟨_, at_, rfl, rfl⟩, (fun b hb => by
      have e : b = it := by simpa using hb
      rw [e]
      exact I1.fpOk h2 h1), q⟩
end
end Kx

set_option maxHeartbeats 4000000
namespace Kx
open PySem PySem.Spec PyProof.Rows L2
/-! tuple(dict): the keys in order -/
section
variable {prog : Program} {w : World} {A : Around} {E : Value → Shared → Prop} {s : Shared} {d : Addr} {n : Nat} {P : Nat → Value → Prop} {OK : Heap → Prop}
theorem code_tuple_new_dict {Q₁ : Value → Shared → Prop} (S : PySem.W.KdlSrc prog w "dict" d d n P OK) (hh : A.handled = none) (hok : OK s.heap) (hn : n ≤ sizeLine)
    (h : ∀ (h' : Heap) (tk : Nat) (acc : Array Value), (∀ b o, s.heap.get? b = some o → h'.get? b = some o) → ItemsOf P acc n →
      Q₁ (.ref h'.objs.size) { s with heap := h'.push { cls := .type "tuple", data := .seq acc }, toks := tk }) :
    codeAny (model prog w) A (.call (.builtin "tuple.__new__") ⟨[.type "tuple", .ref d], []⟩) (wants Q₁ E) s := by
  refine codeAny_of_tree ?_
  show wpAny _ A.in1 (do checkBuiltinCall "tuple.__new__" ⟨[.type "tuple", .ref d], []⟩; again (.builtin "tuple.__new__" ⟨[.type "tuple", .ref d], []⟩)) _ _ s
  refine wpAny_bind (wpAny_of_eq (F.newCall_tuple_1 _) (wpAny_pure ⟨plainId_quiet F.plain_tuple_new _, codeAny_builtin F.entry_tuple_new ?_⟩))
  rw [Around.under_plainId F.plain_tuple_new _]
  have hsub := sub_tuple_self
  have hinit := init_tuple_lookup
  have hmh := madeHere_tuple
  obtain ⟨od, hod, hcd⟩ := S.type _ hok
  have hTI : s.TypeIs (.ref d) "dict" := ⟨od, hod, hcd⟩
  have hh1 : A.in1.handled = none := hh
  wp_walk using wpAny_typeOf hTI, PySem.W.kdu_collect (A := A.in1) S hh1 hok hn
  intro h' tk acc hk hacc
  show wpAny _ _ (Builtin.Tuple.tupleExact acc.toList.toArray >>= fun v => ret v) _ _ _
  unfold Builtin.Tuple.tupleExact
  refine wpAny_bind (wpAny_newObj_type ?_ (by show acc.toList.toArray.size ≤ sizeLine; simp only [Array.toArray_toList]; rw [hacc.1]; exact hn))
  refine wpAny_pure ?_
  have e : acc.toList.toArray = acc := by simp
  rw [e]
  exact h h' tk acc hk hacc
theorem call_tuple_dict {Q : Value → Shared → Prop} (S : PySem.W.KdlSrc prog w "dict" d d n P OK) (hh : A.handled = none) (hok : OK s.heap) (hn : n ≤ sizeLine)
    (hQ : ∀ (h' : Heap) (tk : Nat) (acc : Array Value), (∀ b o, s.heap.get? b = some o → h'.get? b = some o) → ItemsOf P acc n →
      Q (.ref h'.objs.size) { s with heap := h'.push { cls := .type "tuple", data := .seq acc }, toks := tk }) :
    wpAny (model prog w) A (call (.type "tuple") [.ref d]) Q E s := by
  refine callType_codes (Q₁ := fun obj s₁ => s₁.TypeIs obj "tuple" ∧ Q obj s₁) F.called_tuple (F.typeCall_tuple_1 _) F.entry_object_init
    (code_tuple_new_dict (A := A.in1) S hh hok hn fun h' tk acc hk hacc => ⟨⟨_, Heap.get?_push_size _ rfl, rfl⟩, hQ h' tk acc hk hacc⟩) fun obj s₁ h₁ => ?_
  exact ⟨h₁.1, F.args_object_init_2 obj _, object_init_meets F.called_tuple.init.lookup F.called_tuple.made (by decide) prog w A.in1 _ s₁ ⟨h₁.1, rfl, h₁.2⟩⟩
end
def rTupD : List V → Hp → VK → Prop := fun xs H Q => ∃ p kvs, xs = [.ref p] ∧ H p = some (.dK kvs) ∧ ∀ q, H q = none → Q (.ref q) (upd H q (.tup (kvs.map fun kv => kV kv.1)))
theorem call_tuple_dK {X : Cx} (hc : X.calm = true) : CallR X (.type "tuple") rTupD := by
  intro pins s σ H xs us Q I r h
  obtain ⟨p, kvs, e, hk, q⟩ := h
  subst e
  obtain ⟨u, eu, rx⟩ := vals1 r
  subst eu
  obtain rfl : u = Value.ref p := rx
  obtain ⟨z, lo, vs, rk, hd⟩ := (show ObjOk X.prog X.w H s.heap p (.dK kvs) from I.hok p _ hk)
  obtain ⟨ep, hat⟩ := hd.dictAt
  have hl : kvs.length = vs.length := Paired.length rk
  refine call_tuple_dict (PySem.W.kdl_dict (knd := mixKind X.prog X.w) (kvs := vs) (ep := ep) lo) (I.ok.hd hc) hat (by rw [← hl]; exact z) fun h' tk acc' hkeep hacc => ?_
  have I2 : Inv X pins σ H { s with heap := h', toks := tk } := I.kept hkeep
  refine ⟨.ref h'.objs.size, upd H h'.objs.size (.tup (kvs.map fun kv => kV kv.1)), I2.laid (t' := tk) (fun c o e => Heap.get?_push_of_some _ e) (Nat.le_refl _) (show ObjOk X.prog X.w _ _ _ (.tup (kvs.map fun kv => kV kv.1)) from ⟨?_, acc'.toList, ?_, ?_⟩), rfl, q _ (I2.hok.fresh (Nat.le_refl _))⟩
  · rw [List.length_map]; exact z
  · have el : acc'.toList.length = acc'.size := by simp
    refine vals_of_at (by rw [List.length_map, el, hacc.1, hl]) fun j x w h1 h2 => ?_
    obtain ⟨k, y, hky, hi⟩ := hacc.2 j w (by rw [← Array.getElem?_toList]; exact h2)
    have e1 : (kvs.map (·.1))[j]? = some k := by
      rw [KV.keys rk, List.getElem?_map, hky] <;> rfl
    have e2 : (kvs.map fun kv => kV kv.1)[j]? = some (kV k) := by
      have e3 : (kvs.map fun kv => kV kv.1) = (kvs.map (·.1)).map kV := by rw [List.map_map] <;> rfl
      rw [e3, List.getElem?_map, e1] <;> rfl
    rw [e2] at h1
    cases h1
    exact keyIs_rel hi
  · rw [Array.toArray_toList]; exact IsTup.new _ _
end Kx

set_option maxHeartbeats 4000000
namespace Kx
open PySem L2
/-! rows of kinds: what is asked of them, in plain words -/
/-- a thing that is asked about: its kind, and its text is of known length -/
structure Thing (H : Hp) (x : V) (n : String) : Prop where
  kd : Kd H x n
  fine : ∀ z, x = .str z → PyData.strOk z = true ∧ z.length ≤ 100
theorem Thing.keep {H H' : Hp} {x : V} {n : String} (t : Thing H x n) (s : Same H H') : Thing H' x n := ⟨t.kd.keep s, t.fine⟩
theorem Kd.uniq {H : Hp} {x : V} {n m : String} (a : Kd H x n) (b : Kd H x m) : n = m := by
  cases a with
  | non => cases b; rfl
  | bl => cases b; rfl
  | int => cases b; rfl
  | str => cases b; rfl
  | lst a xs h => cases b with
    | lst _ ys h' => rfl
    | tup _ ys h' => rw [h] at h'; cases h'
    | dct _ ys h' => rw [h] at h'; cases h'
  | tup a xs h => cases b with
    | lst _ ys h' => rw [h] at h'; cases h'
    | tup _ ys h' => rfl
    | dct _ ys h' => rw [h] at h'; cases h'
  | dct a xs h => cases b with
    | lst _ ys h' => rw [h] at h'; cases h'
    | tup _ ys h' => rw [h] at h'; cases h'
    | dct _ ys h' => rfl
/-- a row, as it stands: a pair, or no sequence of two -/
inductive RowIs (H : Hp) : V → Option (V × V) → Prop where
  | lst {b : Addr} {n a : V} {t u : String} (h : H b = some (.lst [n, a])) (hn : Thing H n t) (ha : Thing H a u) : RowIs H (.ref b) (some (n, a))
  | tup {b : Addr} {n a : V} {t u : String} (h : H b = some (.tup [n, a])) (hn : Thing H n t) (ha : Thing H a u) : RowIs H (.ref b) (some (n, a))
  | lstN {b : Addr} {xs : List V} (h : H b = some (.lst xs)) (l : xs.length ≠ 2) : RowIs H (.ref b) none
  | tupN {b : Addr} {xs : List V} (h : H b = some (.tup xs)) (l : xs.length ≠ 2) : RowIs H (.ref b) none
  | oth {y : V} {n : String} (h : Kd H y n) (l : seqV n = false) : RowIs H y none
theorem RowIs.keep {H H' : Hp} {y : V} {r : Option (V × V)} (h : RowIs H y r) (s : Same H H') : RowIs H' y r := by
  cases h with
  | lst h hn ha => exact .lst (s _ _ h) (hn.keep s) (ha.keep s)
  | tup h hn ha => exact .tup (s _ _ h) (hn.keep s) (ha.keep s)
  | lstN h l => exact .lstN (s _ _ h) l
  | tupN h l => exact .tupN (s _ _ h) l
  | oth h l => exact .oth (h.keep s) l
theorem RowIs.kd {H : Hp} {y : V} {r : Option (V × V)} (h : RowIs H y r) : ∃ n, Kd H y n ∧ (seqV n = false → r = none) := by
  cases h with
  | lst h hn ha => exact ⟨_, .lst _ _ h, fun z => nomatch z⟩
  | tup h hn ha => exact ⟨_, .tup _ _ h, fun z => nomatch z⟩
  | lstN h l => exact ⟨_, .lst _ _ h, fun _ => rfl⟩
  | tupN h l => exact ⟨_, .tup _ _ h, fun _ => rfl⟩
  | oth h l => exact ⟨_, h, fun _ => rfl⟩
/-- the word for a row that may not follow the names -/
def rowWord (names : List Str) : Option (V × V) → Option Str
  | none => some "row"
  | some (.str z, a) => if isLab z then (if z = "year" then some "year" else if z ∈ names then some "double" else if wholeV a 0 2 then none else some "arity") else some "label"
  | some _ => some "label"
theorem rowWord_lab {names : List Str} {n a : V} (h : labV n = false) : rowWord names (some (n, a)) = some (Str.ofString "label") := by
  cases n with
  | str z =>
    have h : isLab z = false := h
    show (if isLab z = true then _ else _) = _
    rw [h]
    rfl
  | _ => rfl
theorem lab_str {n : V} (h : labV n = true) : ∃ z, n = .str z ∧ isLab z = true := by
  cases n with
  | str z => exact ⟨z, rfl, h⟩
  | _ => cases h
def wordV : Option Str → V
  | none => .non
  | some w => .str w
/-- the dict of the kinds that were read -/
def kvOf (ps : List (Str × V)) : List (Key × V) := ps.map fun p => (Sum.inr p.1, p.2)
theorem kv_in (z : Str) : ∀ ps : List (Str × V), (valV (kvOf ps) (Sum.inr z : Key)).isSome = decide (z ∈ ps.map (·.1))
  | [] => rfl
  | p :: ps => by
    have ih := kv_in z ps
    by_cases e : p.1 = z
    · have e1 : valV (kvOf (p :: ps)) (Sum.inr z : Key) = some p.2 := valV_pos (congrArg Sum.inr e)
      rw [e1]
      simp [e]
    · have e1 : valV (kvOf (p :: ps)) (Sum.inr z : Key) = valV (kvOf ps) (Sum.inr z : Key) := valV_neg fun q => e (Sum.inr.inj q)
      have e2 : ¬ z = p.1 := fun q => e q.symm
      rw [e1, ih]
      simp [e2]
structure Km (mg : Str → Option Value) : Prop where
  year : ∃ t, mg "YEAR" = some (.str "year" t)
  arity : ∃ t, mg "MOST_ARITY" = some (.int 2 t)
  many : ∃ t, mg "MOST_KINDS" = some (.int 6 t)
def spRowFault : Sp := fun vs H Q _ => ∃ (y : V) (d : Addr) (ps : List (Str × V)) (r : Option (V × V)), vs = [y, .ref d] ∧ RowIs H y r ∧ H d = some (.dK (kvOf ps)) ∧ ∀ H', Same H H' → Q (wordV (rowWord (ps.map (·.1)) r)) H'
section
variable {P : Program} {w : World} {K : PySem.W.Frag} {mg : Str → Option Value} {base : Heap}
theorem scRowFault : FnScope ["row", "arities", "name", "arity"] ["row", "arities"] (defScope sRowFault) := ⟨rfl, rfl, rfl, by decide +kernel, rfl, by decide +kernel, by decide +kernel⟩
theorem ok_rowfault {f : Addr} {fd : FuncData} (F : Fun K "_row_fault" "_row_fault" sRowFault f fd) (m : mg "_row_fault" = some (.ref f)) (T : Bl mg) (B : Bm mg) (M : Km mg) (Sq : HasF P w K mg base "is_sequence" 1 ["thing"] spSeq) (Lb : HasF P w K mg base "is_label" 1 ["thing"] spLabel) (W : HasF P w K mg base "is_whole" 1 ["thing", "low", "high"] spWhole) : HasF P w K mg base "_row_fault" 2 ["row", "arities"] spRowFault := by
  refine ⟨f, fd, ?_, m, F.kp, F.binds fun _ _ _ _ _ _ us hl => match us, hl with | [_, _], _ => rfl⟩
  obtain ⟨f1, fd1, Sq⟩ := Sq; obtain ⟨f2, fd2, Lb⟩ := Lb; obtain ⟨f3, fd3, W⟩ := W
  obtain ⟨t1, mY⟩ := M.year; obtain ⟨t2, mA⟩ := M.arity
  refine F.ok scRowFault (fun vs H Q E h => ?_) (fun cdv A outer s H vs Q E hr h => ?_)
  · obtain ⟨a, b, c, d, rfl, _⟩ := h
    rfl
  · obtain ⟨y, d, ps, r, rfl, hy, hd, k⟩ := h
    have hu := hu_of hr
    refine ⟨_, (C8.pss_cut (ps_if (PW.pt (pw_or (pt_not (pt_val (pe_call Sq.G hr (by rfl) Sq.m Sq.kp Sq.b .nil pass0 (pa_cons (pv 0) pa_nil)))) (pw_or1 (pt_cmpR op_ne (pe_callB call_len_seq (by rfl) T.len PySem.boot_len (pa_cons (pv 0) pa_nil)) pe_int (nomark _))))) (pss_one (ps_ret pe_str)) pss_nil)
    (C8.pss_cut (ps_asg (pv 0) (pg_or (pg_lst rfl (pgs_cons (pg_name (i := 2) scRowFault.nd rfl (.inl rfl)) (pgs_cons (pg_name (i := 3) scRowFault.nd rfl (.inl rfl)) pgs_nil))) (pg_tup rfl (pgs_cons (pg_name (i := 2) scRowFault.nd rfl (.inl rfl)) (pgs_cons (pg_name (i := 3) scRowFault.nd rfl (.inl rfl)) pgs_nil)))))
    (pss_cons (ps_if (pt_not (pt_val (pe_call Lb.G hr (by rfl) Lb.m Lb.kp Lb.b .nil pass0 (pa_cons (pv 2) pa_nil)))) (pss_one (ps_ret pe_str)) pss_nil)
    (pss_cons (ps_if (pt_cmpR op_eq (pv 2) (pe_glob (v := .str "year") rfl mY ⟨_, rfl⟩) (nomark _)) (pss_one (ps_ret pe_str)) pss_nil)
    (pss_cons (ps_if (pt_cmp (pc_din hu (pv 2) (pv 1))) (pss_one (ps_ret pe_str)) pss_nil)
    (pss_cons (ps_if (pt_not (pt_val (pe_call W.G hr (by rfl) W.m W.kp W.b .nil pass0 (pa_cons (pv 3) (pa_cons pe_int (pa_cons (pe_glob (v := .int 2) rfl mA ⟨_, rfl⟩) pa_nil)))))) (pss_one (ps_ret pe_str)) pss_nil)
    (pss_one (ps_ret pe_non)))))))), ?_⟩
    refine ⟨fun σ H1 => ∃ (b : Addr) (n a : V) (t u : String), y = .ref b ∧ r = some (n, a) ∧ σ = [some y, some (.ref d), none, none] ∧ Same H H1 ∧ (H1 b = some (.lst [n, a]) ∨ H1 b = some (.tup [n, a])) ∧ Thing H1 n t ∧ Thing H1 a u, ?_, ?_⟩
    · obtain ⟨n, kd, kn⟩ := hy.kd
      refine ⟨_, rfl, y, n, rfl, kd, fun H1 s1 => ⟨_, rfl, ?_⟩⟩
      have hy1 := hy.keep s1
      have bad : r = none → ∀ H', Same H H' → Q (.str "row") H' := fun e H' s => by
        subst e
        exact k H' s
      cases e1 : seqV n with
      | false => exact iteT (bad (kn e1) _ s1)
      | true =>
        refine iteF ?_
        cases hy1 with
        | lst h hn ha => exact ⟨_, rfl, _, _, rfl, .inl (SqL.of h), rfl, _, rfl, iteF ⟨_, _, _, _, _, rfl, rfl, rfl, s1, .inl h, hn, ha⟩⟩
        | tup h hn ha => exact ⟨_, rfl, _, _, rfl, .inr (SqT.of h), rfl, _, rfl, iteF ⟨_, _, _, _, _, rfl, rfl, rfl, s1, .inr h, hn, ha⟩⟩
        | lstN h l =>
          refine ⟨_, rfl, _, _, rfl, .inl (SqL.of h), rfl, _, rfl, ?_⟩
          rw [decide_eq_false (fun e => l (by have := V.int.inj e; omega))]
          exact iteT (bad rfl _ s1)
        | tupN h l =>
          refine ⟨_, rfl, _, _, rfl, .inr (SqT.of h), rfl, _, rfl, ?_⟩
          rw [decide_eq_false (fun e => l (by have := V.int.inj e; omega))]
          exact iteT (bad rfl _ s1)
        | oth h l =>
          rw [← (kd.keep s1).uniq h, e1] at l
          cases l
    rintro σ H1 ⟨b, n, a, t, u, rfl, rfl, rfl, s1, hb, hn, ha⟩
    have hd1 := s1 _ _ hd
    refine ⟨fun σ H' => σ = [some (.ref b), some (.ref d), some n, some a] ∧ H' = H1, ?_, ?_⟩
    · refine ⟨_, rfl, ?_⟩
      rcases hb with hb | hb
      · exact .inl ⟨b, _, rfl, SqL.of hb, rfl, _, _, rfl, _, _, rfl, rfl, rfl, rfl⟩
      · exact .inr ⟨b, _, rfl, SqT.of hb, rfl, _, _, rfl, _, _, rfl, rfl, rfl, rfl⟩
    rintro σ H2 ⟨rfl, rfl⟩
    refine ⟨_, rfl, n, t, rfl, hn.kd, (fun z e => Nat.le_of_lt (small1000 (by have := (hn.fine z e).2; omega))), _, rfl, ?_⟩
    cases e2 : labV n with
    | false =>
      refine iteT ?_
      have q := k _ s1
      rw [rowWord_lab e2] at q
      exact q
    | true =>
    refine iteF ?_
    obtain ⟨z, rfl, hz⟩ := lab_str e2
    have word : ∀ w' : Option Str, (if z = "year" then some (Str.ofString "year") else if z ∈ ps.map (·.1) then some (Str.ofString "double") else if wholeV a 0 2 = true then none else some (Str.ofString "arity")) = w' → ∀ H', Same H H' → Q (wordV w') H' := fun w' e H' s => by
      have q := k H' s
      have e3 : rowWord (ps.map (·.1)) (some (.str z, a)) = w' := by
        show (if isLab z = true then _ else _) = w'
        rw [if_pos hz]
        exact e
      rw [e3] at q
      exact q
    refine ⟨_, rfl, rfl, _, rfl, ?_⟩
    refine ite2 (fun h1 => ?_) (fun h1 => ?_)
    · have e3 : z = Str.ofString "year" := V.str.inj (of_decide_eq_true h1)
      exact word (some "year") (if_pos e3) _ s1
    have n3 : ¬ z = Str.ofString "year" := fun e => h1 (decide_eq_true (congrArg V.str e))
    refine ⟨_, rfl, _, rfl, d, _, rfl, DGet.k (k := Sum.inr z) hd1, _, rfl, ?_⟩
    have kin := kv_in z ps
    cases e4 : valV (kvOf ps) (Sum.inr z : Key) with
    | some v =>
      rw [e4] at kin
      have m4 : z ∈ ps.map (·.1) := of_decide_eq_true kin.symm
      exact iteT (word (some "double") (by rw [if_neg n3, if_pos m4]) _ s1)
    | none =>
      rw [e4] at kin
      have m4 : ¬ z ∈ ps.map (·.1) := of_decide_eq_false kin.symm
      refine iteF ⟨_, rfl, a, u, 0, 2, rfl, ha.kd, _, rfl, ?_⟩
      cases e5 : wholeV a 0 2 with
      | false => exact iteT (word (some "arity") (by rw [if_neg n3, if_neg m4, e5]; rfl) _ s1)
      | true => exact iteF (word none (by rw [if_neg n3, if_neg m4, e5]; rfl) _ s1)
end
end Kx

set_option maxHeartbeats 4000000
namespace Kx
open PySem L2
/-! Kinds(rows): the rows read one by one -/
def nameOf : Option (V × V) → Str
  | some (.str z, _) => z
  | _ => "?"
def arOf : Option (V × V) → V
  | some (_, a) => a
  | _ => .non
def prOf (r : Option (V × V)) : Str × V := (nameOf r, arOf r)
/-- where and why the first row is wrong -/
def scanK : List Str → Nat → List (Option (V × V)) → Option (Nat × Str)
  | _, _, [] => none
  | names, i, r :: rs => match rowWord names r with
    | some w => some (i, w)
    | none => scanK (names ++ [nameOf r]) (i + 1) rs
def rowsDue : Option (List (Option (V × V))) → Option (Nat × Str)
  | none => some (0, "rows")
  | some rs => if 1 ≤ rs.length ∧ rs.length ≤ 6 then scanK [] 0 rs else some (0, "rows")
/-- the things xs are the rows rs -/
def AllR (H : Hp) (xs : List V) (rs : List (Option (V × V))) : Prop := xs.length = rs.length ∧ ∀ (i : Nat) (y : V) (r : Option (V × V)), xs[i]? = some y → rs[i]? = some r → RowIs H y r
theorem AllR.keep {H H' : Hp} {xs : List V} {rs : List (Option (V × V))} (h : AllR H xs rs) (s : Same H H') : AllR H' xs rs := ⟨h.1, fun i y r e1 e2 => (h.2 i y r e1 e2).keep s⟩
inductive RowsIs (H : Hp) : V → Option (List (Option (V × V))) → Prop where
  | lst {b : Addr} {xs : List V} {rs : List (Option (V × V))} (h : H b = some (.lst xs)) (a : AllR H xs rs) (l : xs.length ≤ 100) : RowsIs H (.ref b) (some rs)
  | tup {b : Addr} {xs : List V} {rs : List (Option (V × V))} (h : H b = some (.tup xs)) (a : AllR H xs rs) (l : xs.length ≤ 100) : RowsIs H (.ref b) (some rs)
  | oth {y : V} {n : String} (h : Kd H y n) (l : seqV n = false) : RowsIs H y none
theorem RowsIs.kd {H : Hp} {y : V} {r : Option (List (Option (V × V)))} (h : RowsIs H y r) : ∃ n, Kd H y n ∧ (seqV n = false → r = none) := by
  cases h with
  | lst h a l => exact ⟨_, .lst _ _ h, fun z => nomatch z⟩
  | tup h a l => exact ⟨_, .tup _ _ h, fun z => nomatch z⟩
  | oth h l => exact ⟨_, h, fun _ => rfl⟩
theorem RowsIs.keep {H H' : Hp} {y : V} {r : Option (List (Option (V × V)))} (h : RowsIs H y r) (s : Same H H') : RowsIs H' y r := by
  cases h with
  | lst h a l => exact .lst (s _ _ h) (a.keep s) l
  | tup h a l => exact .tup (s _ _ h) (a.keep s) l
  | oth h l => exact .oth (h.keep s) l
/-- a Kinds stands at p: its pairs -/
structure KindsAt (C : Addr) (H : Hp) (p : Addr) (ps : List (Str × V)) : Prop where
  ob : ∃ (dx : Addr) (fs : List (Str × V)) (r n d : Addr) (ts : List Addr), H p = some (.ins C dx fs) ∧ fs.lookup ("rows" : Str) = some (.ref r) ∧ fs.lookup ("names" : Str) = some (.ref n) ∧ fs.lookup ("_arities" : Str) = some (.ref d) ∧
    (∀ m : Str, ¬ m = Str.ofString "rows" → ¬ m = Str.ofString "names" → ¬ m = Str.ofString "_arities" → fs.lookup m = none) ∧
    H r = some (.tup (ts.map V.ref)) ∧ ts.length = ps.length ∧ (∀ (i : Nat) (t : Addr) (q : Str × V), ts[i]? = some t → ps[i]? = some q → H t = some (.tup [.str q.1, q.2])) ∧
    H n = some (.tup (ps.map fun q => V.str q.1)) ∧ H d = some (.dK (kvOf ps))
theorem KindsAt.keep {C : Addr} {H H' : Hp} {p : Addr} {ps : List (Str × V)} (k : KindsAt C H p ps) (s : Same H H') : KindsAt C H' p ps := by
  obtain ⟨dx, fs, r, n, d, ts, h1, h2, h3, h4, h5, h6, h7, h8, h9, h10⟩ := k.ob
  exact ⟨dx, fs, r, n, d, ts, s _ _ h1, h2, h3, h4, h5, s _ _ h6, h7, fun i t q e1 e2 => s _ _ (h8 i t q e1 e2), s _ _ h9, s _ _ h10⟩
/-- a row that may follow is a label not seen and a small number -/
theorem rowWord_none {names : List Str} {r : Option (V × V)} (h : rowWord names r = none) : ∃ (z : Str) (k : Int), r = some (.str z, .int k) ∧ isLab z = true ∧ ¬ z = Str.ofString "year" ∧ ¬ z ∈ names ∧ 0 ≤ k ∧ k ≤ 2 := by
  cases r with
  | none => cases h
  | some p =>
    obtain ⟨n, a⟩ := p
    cases n with
    | str z =>
      have h : (if isLab z = true then (if z = Str.ofString "year" then some (Str.ofString "year") else if z ∈ names then some (Str.ofString "double") else if wholeV a 0 2 = true then none else some (Str.ofString "arity")) else some (Str.ofString "label")) = none := h
      by_cases h1 : isLab z = true
      · rw [if_pos h1] at h
        by_cases h2 : z = Str.ofString "year"
        · rw [if_pos h2] at h; cases h
        · rw [if_neg h2] at h
          by_cases h3 : z ∈ names
          · rw [if_pos h3] at h; cases h
          · rw [if_neg h3] at h
            by_cases h4 : wholeV a 0 2 = true
            · cases a with
              | int k =>
                have h4 : (decide (0 ≤ k) && decide (k ≤ 2)) = true := h4
                rw [Bool.and_eq_true, decide_eq_true_eq, decide_eq_true_eq] at h4
                exact ⟨z, k, rfl, h1, h2, h3, h4.1, h4.2⟩
              | _ => cases h4
            · rw [if_neg h4] at h; cases h
      · rw [if_neg h1] at h; cases h
    | _ => cases h
theorem scanK_step {names : List Str} {rs : List (Option (V × V))} {i : Nat} {r : Option (V × V)} (e : rs[i]? = some r) : scanK names i (rs.drop i) = match rowWord names r with
    | some w => some (i, w)
    | none => scanK (names ++ [nameOf r]) (i + 1) (rs.drop (i + 1)) := by
  have lt : i < rs.length := (List.getElem?_eq_some_iff.mp e).1
  have e2 : rs[i] = r := (List.getElem?_eq_some_iff.mp e).2
  rw [List.drop_eq_getElem_cons lt, e2]
  rfl
theorem take_succ_of {α : Type} {l : List α} {i : Nat} {x : α} (e : l[i]? = some x) : l.take (i + 1) = l.take i ++ [x] := by
  rw [List.take_add_one, e]
  rfl
theorem kvOf_put {ps : List (Str × V)} {z : Str} {a : V} (h : ¬ z ∈ ps.map (·.1)) : putK (kvOf ps) (Sum.inr z : Key) a = kvOf (ps ++ [(z, a)]) := by
  have e : valV (kvOf ps) (Sum.inr z : Key) = none := by
    have q := kv_in z ps
    rw [decide_eq_false h] at q
    cases e : valV (kvOf ps) (Sum.inr z : Key) with
    | none => rfl
    | some v => rw [e] at q; cases q
  rw [putK_new _ e]
  simp [kvOf]
theorem kvOf_keys (ps : List (Str × V)) : (kvOf ps).map (fun kv => kV kv.1) = ps.map fun q => V.str q.1 := by
  simp [kvOf, kV]
/-- what __init__ promises: the pairs, or the first wrong row -/
def spKinds (K : PySem.W.Frag) (C CB : Addr) : Sp := fun vs H Q E => ∃ (p dx : Addr) (y : V) (r : Option (List (Option (V × V)))), vs = [.ref p, y] ∧ H p = some (.ins C dx []) ∧ RowsIs H y r ∧ y ≠ .ref p ∧ y ≠ .ref dx ∧
  match rowsDue r with
  | some (i, w) => ∀ d H', H d = none → Same H H' → H' d = some (.xd [("what", .str w), ("index", .int (i : Nat))]) → E (.ref CB) (some d) H'
  | none => ∀ (rs : List (Option (V × V))) H', r = some rs → (∀ b o, H b = some o → b ≠ p → H' b = some o) → KindsAt C H' p (rs.map prOf) → Q .non H'
end Kx

set_option maxHeartbeats 4000000
namespace Kx
open PySem L2
/-- what is known of the class Kinds -/
structure KC (K : PySem.W.Frag) (C : Addr) : Prop where
  cl : Cls K C
  nR : NoAttr K C "rows"
  nN : NoAttr K C "names"
  nA : NoAttr K C "_arities"
  ca : PySem.W.findIn K (.ref C) "__class__" = some (some (.builtin "object.__class__"))
  cg : PySem.W.specialIn K (.builtin "object.__class__") "__get__" = some (some (.builtin "getset_descriptor.__get__"))
  ct : PySem.W.takesIn K (.builtin "object.__class__") = some true
  cm : PySem.W.mroIn K C (.type "object") = some true
  isT : PySem.W.kitOne K (.type "tuple") (.ref C) = some false
theorem s_rn : ¬ (Str.ofString "rows") = Str.ofString "names" := by decide +kernel
theorem s_ra : ¬ (Str.ofString "rows") = Str.ofString "_arities" := by decide +kernel
theorem s_na : ¬ (Str.ofString "names") = Str.ofString "_arities" := by decide +kernel
def kFs (r n d : Addr) : List (Str × V) := putF "_arities" (.ref d) (putF "names" (.ref n) (putF "rows" (.ref r) []))
theorem kFs_rows (r n d : Addr) : (kFs r n d).lookup ("rows" : Str) = some (.ref r) := by
  unfold kFs
  rw [lookup_putF, if_neg s_ra, lookup_putF, if_neg s_rn, lookup_putF, if_pos rfl]
theorem kFs_names (r n d : Addr) : (kFs r n d).lookup ("names" : Str) = some (.ref n) := by
  unfold kFs
  rw [lookup_putF, if_neg s_na, lookup_putF, if_pos rfl]
theorem kFs_ar (r n d : Addr) : (kFs r n d).lookup ("_arities" : Str) = some (.ref d) := by
  unfold kFs
  rw [lookup_putF, if_pos rfl]
theorem kFs_no (r n d : Addr) {m : Str} (h1 : ¬ m = Str.ofString "rows") (h2 : ¬ m = Str.ofString "names") (h3 : ¬ m = Str.ofString "_arities") : (kFs r n d).lookup m = none := by
  unfold kFs
  rw [lookup_putF, if_neg h3, lookup_putF, if_neg h2, lookup_putF, if_neg h1]
  rfl
section
variable {P : Program} {w : World} {K : PySem.W.Frag} {mg : Str → Option Value} {base : Heap}
theorem scKinds : FnScope ["self", "rows", "arities", "index", "row", "word", "name", "arity"] ["self", "rows"] (defScope sKinds_init) := ⟨rfl, rfl, rfl, by decide +kernel, rfl, by decide +kernel, by decide +kernel⟩
theorem ok_kinds {f C CB fB : Addr} {fd fdB : FuncData} (F : Fun K "__init__" "Kinds.__init__" sKinds_init f fd) (T : Bl mg) (B : Bm mg) (M : Km mg) (KX : KC K C) (Sq : HasF P w K mg base "is_sequence" 1 ["thing"] spSeq) (R : HasF P w K mg base "_row_fault" 2 ["row", "arities"] spRowFault)
    (EB : ErC P w K mg base "BadKinds" ["self", "index", "what"] CB fB fdB (spInit2 K CB "index" "what")) (n1 : PySem.W.findIn K (.ref CB) "index" = some none) (n2 : PySem.W.findIn K (.ref CB) "what" = some none) :
    FnOk P w K mg base (L2.CX P w) 3 f fd ["self", "rows"] (spKinds K C CB) := by
  obtain ⟨f1, fd1, Sq⟩ := Sq; obtain ⟨f2, fd2, R⟩ := R
  obtain ⟨t1, mM⟩ := M.many
  refine F.okX scKinds (fun vs H Q E h => ?_) (fun cdv A outer s H vs Q E hr h => ?_)
  · obtain ⟨p, dx, y, r, rfl, _⟩ := h
    rfl
  · obtain ⟨p, dx, y, r, rfl, hp, hy, yp, yd, k⟩ := h
    have hu := hu_of hr
    have hr1 : Room 1 _ := hr.mono (by decide)
    refine ⟨_, (C8.pss_cut (ps_if (PW.pt (pw_or (pt_not (pt_val (pe_call Sq.G hr1 (by rfl) Sq.m Sq.kp Sq.b .nil pass0 (pa_cons (pv 1) pa_nil)))) (pw_or1 (pt_not (pt_chain op_le op_le pe_int (pe_callB call_len_seq (by rfl) T.len PySem.boot_len (pa_cons (pv 1) pa_nil)) (pe_glob (v := .int 6) rfl mM ⟨_, rfl⟩)))))) (pss_one (ps_raise rfl (takes_of rfl rfl rfl rfl) (pmk_oex EB.T EB.iC EB.tI EB.G hr EB.b .nil pass0 (by rfl) EB.gC (pa_cons pe_int (pa_cons pe_str pa_nil))))) pss_nil)
    (pss_cons (ps_set (i := 2) scKinds.nd rfl (Or.inl rfl) pe_dnewK)
    (C8.pss_cut (ps_for (passes_of rfl) rfl (pi_enumB (by rfl) T.enumerate (pa_cons (pv 1) pa_nil)) (pg_tup rfl (pgs_cons (pg_name (i := 3) scKinds.nd rfl (Or.inl rfl)) (pgs_cons (pg_name (i := 4) scKinds.nd rfl (Or.inl rfl)) pgs_nil)))
        (pss_cons (ps_set (i := 5) scKinds.nd rfl (Or.inl rfl) (pe_call R.G hr (by rfl) R.m R.kp R.b .nil pass0 (pa_cons (pv 4) (pa_cons (pv 2) pa_nil))))
    (pss_cons (ps_if (pt_cmpR op_notN (pv 5) pe_non (nomark _)) (pss_one (ps_raise rfl (takes_of rfl rfl rfl rfl) (pmk_oex EB.T EB.iC EB.tI EB.G hr EB.b .nil pass0 (by rfl) EB.gC (pa_cons (pv 3) (pa_cons (pv 5) pa_nil))))) pss_nil)
    (pss_one (ps_dput hu (pv 2) (pe_ix ix_seq (pv 4) pe_int (fun _ _ => rfl)) (pe_ix ix_seq (pv 4) pe_int (fun _ _ => rfl)) rfl)))))
    (pss_cons (ps_fld (pv 0) (pe_callTy call_tuple_of (by rfl) B.tuple (by decide +kernel) (pa_cons (pe_lock (pe_lc (own := [("name", 6), ("arity", 7)]) (g := gTup K 2 (gCons (gName 6) (gCons (gName 7) gNil))) (tt := tYes) (by rfl) scKinds.nd (pi_items (pv 2)) (blkOk_by (own := [("name", 6), ("arity", 7)]) (N := ["self", "rows", "arities", "index", "row", "word", "name", "arity"]) (sc := defScope sKinds_init) (by decide +kernel))
        (fun _ _ _ _ _ => pg_tup rfl (pgs_cons (pg_name scKinds.nd rfl (.inl rfl)) (pgs_cons (pg_name scKinds.nd rfl (.inl rfl)) pgs_nil))) (fun _ _ _ _ _ => pts_nil) (fun _ _ _ _ _ => pe_tup (pa_cons (pv 6) (pa_cons (pv 7) pa_nil))))) pa_nil)) rfl)
    (pss_cons (ps_fld (pv 0) (pe_callTy (call_tuple_dK rfl) (by rfl) B.tuple (by decide +kernel) (pa_cons (pv 2) pa_nil)) rfl)
    (pss_one (ps_fld (pv 0) (pv 2) rfl))))))), ?_⟩
    -- the first test
    refine ⟨fun σ H1 => ∃ (b : Addr) (xs : List V) (rs : List (Option (V × V))), y = .ref b ∧ r = some rs ∧ σ = [some (.ref p), some (.ref b), none, none, none, none, none, none] ∧ Same H H1 ∧ (H1 b = some (.lst xs) ∨ H1 b = some (.tup xs)) ∧ AllR H1 xs rs ∧ 1 ≤ rs.length ∧ rs.length ≤ 6, ?_, ?_⟩
    · obtain ⟨n, kd, kn⟩ := hy.kd
      refine ⟨_, rfl, y, n, rfl, kd, fun H1 s1 => ⟨_, rfl, ?_⟩⟩
      have hy1 := hy.keep s1
      have bad : rowsDue r = some (0, Str.ofString "rows") → ∀ H', Same H H' → [V.int 0, V.str "rows"].length ≤ 1000 ∧ ∀ a, H' a = none → spInit2 K CB "index" "what" (.ref a :: ([V.int 0, V.str "rows"] ++ [])) (upd H' a (exo a CB none)) (fun v H2 => v = .non ∧ ∃ (d : Addr) (fs : List (Str × V)), H2 a = some (exo a CB (some d)) ∧ H2 d = some (exd d fs) ∧ H' d = none ∧ E (.ref CB) (some d) (upd (del H2 a) d (.xd fs))) (fun _ _ _ => False) := fun e H' s => by
        rw [e] at k
        exact fin2 EB.T n1 n2 fun d H2 hd s2 e2 => k d H2 (s.free hd) (s.trans s2) e2
      cases e1 : seqV n with
      | false => exact iteT (bad (by rw [kn e1]; rfl) _ s1)
      | true =>
        refine iteF ?_
        cases hy1 with
        | lst h a l =>
          rename_i b xs rs
          have al := a.1
          refine ⟨_, rfl, _, _, rfl, .inl (SqL.of h), _, _, rfl, rfl, _, rfl, ?_⟩
          refine ite2 (fun h1 => ?_) (fun h1 => ?_)
          · have h1 := of_decide_eq_true h1
            refine ⟨_, _, rfl, rfl, _, rfl, ?_⟩
            refine ite2 (fun h2 => ?_) (fun h2 => ?_)
            · have h2 : ¬ ((xs.length : Nat) : Int) ≤ 6 := fun e => by rw [decide_eq_true e] at h2; cases h2
              exact bad (by show (if _ then _ else _) = _; rw [if_neg (by omega)]) _ s1
            · have h2 : ((xs.length : Nat) : Int) ≤ 6 := by
                by_cases q : ((xs.length : Nat) : Int) ≤ 6
                · exact q
                · rw [decide_eq_false q] at h2
                  exact absurd rfl h2
              exact ⟨b, xs, rs, rfl, rfl, rfl, s1, .inl h, a, by omega, by omega⟩
          · have h1 : ¬ (1 : Int) ≤ ((xs.length : Nat) : Int) := fun e => h1 (decide_eq_true e)
            exact ⟨_, rfl, iteT (bad (by show (if _ then _ else _) = _; rw [if_neg (by omega)]) _ s1)⟩
        | tup h a l =>
          rename_i b xs rs
          have al := a.1
          refine ⟨_, rfl, _, _, rfl, .inr (SqT.of h), _, _, rfl, rfl, _, rfl, ?_⟩
          refine ite2 (fun h1 => ?_) (fun h1 => ?_)
          · have h1 := of_decide_eq_true h1
            refine ⟨_, _, rfl, rfl, _, rfl, ?_⟩
            refine ite2 (fun h2 => ?_) (fun h2 => ?_)
            · have h2 : ¬ ((xs.length : Nat) : Int) ≤ 6 := fun e => by rw [decide_eq_true e] at h2; cases h2
              exact bad (by show (if _ then _ else _) = _; rw [if_neg (by omega)]) _ s1
            · have h2 : ((xs.length : Nat) : Int) ≤ 6 := by
                by_cases q : ((xs.length : Nat) : Int) ≤ 6
                · exact q
                · rw [decide_eq_false q] at h2
                  exact absurd rfl h2
              exact ⟨b, xs, rs, rfl, rfl, rfl, s1, .inr h, a, by omega, by omega⟩
          · have h1 : ¬ (1 : Int) ≤ ((xs.length : Nat) : Int) := fun e => h1 (decide_eq_true e)
            exact ⟨_, rfl, iteT (bad (by show (if _ then _ else _) = _; rw [if_neg (by omega)]) _ s1)⟩
        | oth h l =>
          rw [← (kd.keep s1).uniq h, e1] at l
          cases l
    -- arities = {}
    rintro σ H1 ⟨b, xs, rs, rfl, rfl, rfl, s1, hb, al, l1, l6⟩ d hd
    have due : rowsDue (some rs) = scanK [] 0 rs := if_pos ⟨l1, l6⟩
    rw [due] at k
    have hd0 : H d = none := s1.free hd
    have bd : b ≠ d := by
      rcases hb with hb | hb
      · exact ne_of_none hb hd
      · exact ne_of_none hb hd
    have s2 : Same H1 (upd H1 d (.dK [])) := sameUpd (Same.refl _) hd
    -- the loop
    refine ⟨fun σ H2 => ∃ v3 v4 v5 : Option V, σ = [some (.ref p), some (.ref b), some (.ref d), v3, v4, v5, none, none] ∧ Same H1 H2 ∧ H2 d = some (.dK (kvOf (rs.map prOf))) ∧ scanK [] 0 rs = none, ?_, ?_⟩
    · refine ⟨_, rfl, b, xs, rfl, ?_⟩
      refine for_enumB (K := K) (a := b) (xs := xs) (fun i σ H2 => ∃ v3 v4 v5 : Option V, σ = [some (.ref p), some (.ref b), some (.ref d), v3, v4, v5, none, none] ∧ Same H1 H2 ∧ H2 d = some (.dK (kvOf ((rs.take i).map prOf))) ∧ scanK [] 0 rs = scanK (((rs.take i).map prOf).map (·.1)) i (rs.drop i))
        ⟨none, none, none, rfl, s2, upd_same, rfl⟩ ?_ ?_ ?_
      · rcases hb with hb | hb
        · exact .inl fun i σ H2 ⟨_, _, _, _, s, _⟩ => SqL.of (s _ _ hb)
        · exact .inr fun i σ H2 ⟨_, _, _, _, s, _⟩ => SqT.of (s _ _ hb)
      · rintro i x σ H2 t hi ⟨v3, v4, v5, rfl, s3, d3, sc⟩ ht
        have ltx : i < xs.length := (List.getElem?_eq_some_iff.mp hi).1
        have ltr : i < rs.length := by have := al.1; omega
        have hr' : rs[i]? = some rs[i] := List.getElem?_eq_getElem ltr
        have row := al.2 i x _ hi hr'
        have s4 : Same H1 (upd H2 t (.tup [.int (i : Nat), x])) := sameUpd s3 ht
        have dt : t ≠ d := (ne_of_none d3 ht).symm
        refine ⟨t, _, rfl, SqT.of upd_same, rfl, _, _, rfl, _, _, rfl, rfl, ?_⟩
        refine ⟨_, rfl, _, rfl, x, d, _, _, rfl, row.keep s4, by rw [upd_ne dt.symm]; exact d3, fun H3 s5 => ?_⟩
        have s6 : Same H1 H3 := s4.trans s5
        have d4 : H3 d = some (.dK (kvOf ((rs.take i).map prOf))) := s5 _ _ (by rw [upd_ne dt.symm]; exact d3)
        rw [scanK_step hr'] at sc
        cases e : rowWord (((rs.take i).map prOf).map (·.1)) rs[i] with
        | some w' =>
          rw [e] at sc
          rw [sc] at k
          refine ⟨_, rfl, rfl, _, rfl, iteT ?_⟩
          refine ⟨_, rfl, _, rfl, fin2 EB.T n1 n2 fun d' H4 hd' s7 e7 => k d' H4 ?_ (s1.trans (s6.trans s7)) e7⟩
          exact (s1.trans s6).free hd'
        | none =>
          rw [e] at sc
          refine ⟨_, rfl, rfl, _, rfl, iteF ?_⟩
          obtain ⟨z, kk, er, _, _, hnot, _, _⟩ := rowWord_none e
          have row3 := row.keep s6
          rw [er] at row3
          have len : (kvOf ((rs.take i).map prOf)).length < sizeLine := small1000 (by simp [kvOf]; omega)
          have put : ∀ {σ' : L2.St}, σ' = [some (V.ref p), some (V.ref b), some (V.ref d), some (V.int (i : Nat)), some x, some V.non, none, none] → ∃ v3 v4 v5 : Option V, σ' = [some (.ref p), some (.ref b), some (.ref d), v3, v4, v5, none, none] ∧ Same H1 (upd H3 d (.dK (putK (kvOf ((rs.take i).map prOf)) (Sum.inr z : Key) (V.int kk)))) ∧ upd H3 d (.dK (putK (kvOf ((rs.take i).map prOf)) (Sum.inr z : Key) (V.int kk))) d = some (.dK (kvOf ((rs.take (i + 1)).map prOf))) ∧ scanK [] 0 rs = scanK (((rs.take (i + 1)).map prOf).map (·.1)) (i + 1) (rs.drop (i + 1)) := fun es => by
            have et : (rs.take (i + 1)).map prOf = (rs.take i).map prOf ++ [(z, V.int kk)] := by
              rw [take_succ_of hr', List.map_append, er]
              rfl
            refine ⟨_, _, _, es, fun c o ec => ?_, ?_, ?_⟩
            · rw [upd_ne (ne_of_none ec hd)]
              exact s6 c o ec
            · rw [upd_same, kvOf_put hnot, et]
            · rw [sc, et, List.map_append, er]
              rfl
          cases row3 with
          | lst h hn ha => exact ⟨_, rfl, .inl ⟨_, _, _, _, rfl, rfl, SqL.of h, rfl, _, rfl, _, rfl, .inl ⟨_, _, _, _, rfl, rfl, SqL.of h, rfl, d, _, rfl, DPut.k (k := Sum.inr z) d4 len, put rfl⟩⟩⟩
          | tup h hn ha => exact ⟨_, rfl, .inr (.inl ⟨_, _, _, _, rfl, rfl, SqT.of h, rfl, _, rfl, _, rfl, .inr (.inl ⟨_, _, _, _, rfl, rfl, SqT.of h, rfl, d, _, rfl, DPut.k (k := Sum.inr z) d4 len, put rfl⟩)⟩)⟩
      · rintro σ H2 ⟨v3, v4, v5, rfl, s3, d3, sc⟩
        refine ⟨v3, v4, v5, rfl, s3, ?_, ?_⟩
        · rw [d3, al.1, List.take_length]
        · rw [sc, al.1, List.drop_length]; rfl
    -- the fields
    rintro σ H2 ⟨v3, v4, v5, rfl, s3, d3, sc⟩
    rw [sc] at k
    have pd : p ≠ d := ne_of_none (s1 _ _ hp) hd
    have hp2 : H2 p = some (.ins C dx []) := s3 _ _ (s1 _ _ hp)
    have pl : (rs.map prOf).length = rs.length := by simp
    refine ⟨d, _, d3, trivial, fun od => ?_⟩
    refine ⟨_, rfl, d, od, kvOf (rs.map prOf), rfl, upd_same, fun D hD => ?_⟩
    have Dd : D ≠ d := fun e => by rw [e, upd_same] at hD; cases hD
    have hD2 : H2 D = none := by rw [upd_ne Dd] at hD; exact hD
    refine lc_it walk_items (fun i H3 => (∀ c o, H2 c = some o → c ≠ d → H3 c = some o) ∧ H3 d = some (.frz od (.dK (kvOf (rs.map prOf)))) ∧ ∃ ts : List Addr, ts.length = i ∧ H3 D = some (.lst (ts.map V.ref)) ∧ ∀ (j : Nat) (t : Addr) (q : Str × V), ts[j]? = some t → (rs.map prOf)[j]? = some q → H3 t = some (.tup [.str q.1, q.2]))
      ⟨fun c o e n => ?_, ?_, [], rfl, upd_same, fun j t q e _ => by cases e⟩ (fun i H3 _ w => w.2.1) ?_ ?_
    · rw [upd_ne (ne_of_none e hD2), upd_ne n]
      exact e
    · rw [upd_ne Dd.symm, upd_same]
    · rintro i v H3 H4 hi ⟨kp, fz, ts, tl, hDs, hts⟩ ⟨t, x, y, rfl, ht, rfl, ex, ey⟩
      have lti : i < (rs.map prOf).length := by simpa [kvOf] using hi
      have eq : (rs.map prOf)[i]? = some (rs.map prOf)[i] := List.getElem?_eq_getElem lti
      have ekv : (kvOf (rs.map prOf))[i]? = some (Sum.inr (rs.map prOf)[i].1, (rs.map prOf)[i].2) := by
        unfold kvOf
        rw [List.getElem?_map, eq]
        rfl
      have ex : (kvOf (rs.map prOf))[i]?.map (fun kv => kV kv.1) = some x := ex
      have ey : (kvOf (rs.map prOf))[i]?.map Prod.snd = some y := ey
      rw [ekv] at ex ey
      cases ex
      cases ey
      refine ⟨t, _, rfl, SqT.of upd_same, rfl, _, _, rfl, _, _, rfl, rfl, rfl, ?_⟩
      have tD : t ≠ D := (ne_of_none hDs ht).symm
      have td : t ≠ d := (ne_of_none fz ht).symm
      refine ⟨_, rfl, _, rfl, (by show 2 ≤ sizeLine; decide), fun u hu' => ?_⟩
      have hu3 : H3 u = none := by
        by_cases e : u = t
        · rw [e]; exact ht
        · rw [upd_ne e] at hu'; exact hu'
      have uD : u ≠ D := (ne_of_none hDs hu3).symm
      have ud : u ≠ d := (ne_of_none fz hu3).symm
      refine ⟨ts.map V.ref, by rw [upd_ne uD.symm, upd_ne tD.symm]; exact hDs, small1000 (by simp; omega), fun c o e n => ?_, ?_, ts ++ [u], by simp [tl], by rw [upd_same, List.map_append]; rfl, fun j t' q e1 e2 => ?_⟩
      · have n1 : c ≠ u := ne_of_none (kp c o e n) hu3
        have n2 : c ≠ t := ne_of_none (kp c o e n) ht
        rw [upd_ne (ne_of_none e hD2), upd_ne n1, upd_ne n2]
        exact kp c o e n
      · rw [upd_ne Dd.symm, upd_ne ud.symm, upd_ne td.symm]
        exact fz
      · by_cases lt : j < ts.length
        · rw [List.getElem?_append_left lt] at e1
          have q3 := hts j t' q e1 e2
          have n0 : t' ≠ D := fun e => by rw [e, hDs] at q3; cases q3
          rw [upd_ne n0, upd_ne (ne_of_none q3 hu3), upd_ne (ne_of_none q3 ht)]
          exact q3
        · rw [List.getElem?_append_right (by omega)] at e1
          have j0 : j = i := by
            have := (List.getElem?_eq_some_iff.mp e1).1
            simp at this
            omega
          subst j0
          have e3 : t' = u := by
            rw [tl, Nat.sub_self] at e1
            exact (Option.some.inj e1).symm
          rw [eq] at e2
          cases e2
          rw [e3, upd_ne uD, upd_same]
          rfl
    rintro H3 ⟨kp, fz, ts, tl, hDs, hts⟩
    have tl : ts.length = (rs.map prOf).length := by rw [tl]; simp [kvOf]
    have al' : ∀ (c : Addr) (o : HO), H1 c = some o → H3 c = some o := fun c o e => kp c o (s3 c o e) (ne_of_none e hd)
    -- behind the lock
    have key : ∀ c, c ≠ d → upd H3 d (.dK (kvOf (rs.map prOf))) c = H3 c := fun c n => upd_ne n
    refine ⟨fz, D, _, rfl, .inl ⟨SqL.of (by rw [key D Dd]; exact hDs), fun l hl => ?_⟩⟩
    have ld : l ≠ d := fun e => by rw [e, upd_same] at hl; cases hl
    have l3 : H3 l = none := by rw [key l ld] at hl; exact hl
    have hp3 : H3 p = some (.ins C dx []) := kp p _ hp2 pd
    have lp : l ≠ p := (ne_of_none hp3 l3).symm
    refine ⟨_, rfl, p, C, dx, [], rfl, by rw [upd_ne lp.symm, key p pd]; exact hp3, KX.cl, KX.nR, by decide, ?_⟩
    refine ⟨_, rfl, d, kvOf (rs.map prOf), rfl, by rw [upd_ne pd.symm, upd_ne ld.symm, upd_same], fun n hn => ?_⟩
    have np : n ≠ p := fun e => by rw [e, upd_same] at hn; cases hn
    rw [upd_ne np] at hn
    have nl : n ≠ l := fun e => by rw [e, upd_same] at hn; cases hn
    rw [upd_ne nl] at hn
    have nd : n ≠ d := fun e => by rw [e, upd_same] at hn; cases hn
    have n3 : H3 n = none := by rw [key n nd] at hn; exact hn
    refine ⟨_, rfl, p, C, dx, _, rfl, by rw [upd_ne np.symm, upd_same], KX.cl, KX.nN, Nat.lt_of_le_of_lt (length_putF _ _ _) (by decide), ?_⟩
    refine ⟨_, rfl, _, rfl, p, C, dx, _, rfl, upd_same, KX.cl, KX.nA, Nat.lt_of_le_of_lt (Nat.le_trans (length_putF _ _ _) (Nat.succ_le_succ (length_putF _ _ _))) (by decide), ?_⟩
    refine k rs _ rfl (fun c o e nc => ?_) ⟨dx, kFs l n d, l, n, d, ts, upd_same, kFs_rows _ _ _, kFs_names _ _ _, kFs_ar _ _ _, fun m h1 h2 h3 => kFs_no _ _ _ h1 h2 h3, ?_, tl, fun i t q e1 e2 => ?_, ?_, ?_⟩
    · have e1 := s1 _ _ e
      have e3 := al' _ _ e1
      rw [upd_ne nc, upd_ne nc, upd_ne (ne_of_none e3 n3), upd_ne nc, upd_ne (ne_of_none e3 l3), key c (ne_of_none e1 hd)]
      exact e3
    · rw [upd_ne lp, upd_ne lp, upd_ne nl.symm, upd_ne lp, upd_same]
    · have q3 := hts i t q e1 e2
      have tp : t ≠ p := fun e => by rw [e, hp3] at q3; cases q3
      have td : t ≠ d := fun e => by rw [e, fz] at q3; cases q3
      rw [upd_ne tp, upd_ne tp, upd_ne (ne_of_none q3 n3), upd_ne tp, upd_ne (ne_of_none q3 l3), key t td]
      exact q3
    · rw [upd_ne np, upd_ne np, upd_same, kvOf_keys]
    · rw [upd_ne pd.symm, upd_ne pd.symm, upd_ne nd.symm, upd_ne pd.symm, upd_ne ld.symm, upd_same]
end
end Kx

set_option maxHeartbeats 4000000
namespace Kx
open PySem L2
/-! the methods of Kinds -/
def vv (ks : List (Str × Int)) : List (Str × V) := ks.map fun q => (q.1, V.int q.2)
def pd (q : Str × Int) : PyData := .tuple [.str q.1, .int q.2]
def kd (ks : List (Str × Int)) : PyData := .tuple (ks.map pd)
theorem eqv_kd : ∀ ks ls : List (Str × Int), PyData.eqvAll (ks.map pd) (ls.map pd) = decide (ks = ls)
  | [], [] => rfl
  | [], _ :: _ => rfl
  | _ :: _, [] => rfl
  | (a, i) :: ks, (b, j) :: ls => by
    have e : PyData.eqv (pd (a, i)) (pd (b, j)) = ((a == b) && ((i == j) && true)) := by
      simp [pd, PyData.eqv, PyData.eqvAll]
    show (PyData.eqv (pd (a, i)) (pd (b, j)) && PyData.eqvAll (ks.map pd) (ls.map pd)) = _
    rw [e, eqv_kd ks ls]
    by_cases h1 : a = b
    · by_cases h2 : i = j
      · simp [h1, h2]
      · simp [h1, h2]
    · simp [h1]
theorem small_pd : ∀ ks : List (Str × Int), (∀ q ∈ ks, PyData.strOk q.1 = true) → PyData.canLayAll0 (ks.map pd) = true ∧ PyData.depthAll (ks.map pd) ≤ 1
  | [], _ => ⟨rfl, Nat.zero_le _⟩
  | q :: ks, h => by
    obtain ⟨h1, h2⟩ := small_pd ks fun r m => h r (.tail _ m)
    have h3 := h q (.head _)
    refine ⟨?_, ?_⟩
    · show (PyData.canLay0 (pd q) && _) = true
      rw [h1]
      simp [pd, PyData.canLay0, PyData.canLayAll0, h3]
    · show max (PyData.depth (pd q)) (PyData.depthAll (ks.map pd)) ≤ 1
      have : PyData.depth (pd q) = 1 := by simp [pd, PyData.depth, PyData.depthAll]
      omega
theorem shaped_kd {ks : List (Str × Int)} (h : ∀ q ∈ ks, PyData.strOk q.1 = true) : SeqAt.shaped (kd ks) = true := by
  obtain ⟨h1, h2⟩ := small_pd ks h
  unfold SeqAt.shaped
  rw [Bool.and_eq_true]
  refine ⟨h1, decide_eq_true ?_⟩
  show PyData.depthAll (ks.map pd) + 1 ≤ 64
  omega
theorem dpAll_pd {K : PySem.W.Frag} {H : Hp} : ∀ (ks : List (Str × Int)) (ts : List Addr), ts.length = ks.length → (∀ (i : Nat) (t : Addr) (q : Str × Int), ts[i]? = some t → ks[i]? = some q → H t = some (.tup [.str q.1, .int q.2])) → DpAll K H (ts.map V.ref) (ks.map pd)
  | [], [], _, _ => .nil
  | [], _ :: _, h, _ => by cases h
  | _ :: _, [], h, _ => by cases h
  | q :: ks, t :: ts, h, f => .cons (.tup (SqT.of (f 0 t q rfl rfl)) (.cons (.str _) (.cons (.int _) .nil))) (dpAll_pd ks ts (Nat.succ.inj h) fun i t q e1 e2 => f (i + 1) t q e1 e2)
/-- the tuple of the pairs -/
def RowsT (K : PySem.W.Frag) (H : Hp) (r : Addr) (ks : List (Str × Int)) : Prop := Dp K H (.ref r) (kd ks)
theorem KindsAt.get {K : PySem.W.Frag} {C : Addr} {H : Hp} {p : Addr} {ks : List (Str × Int)} (k : KindsAt C H p (vv ks)) : ∃ (dx : Addr) (fs : List (Str × V)) (r n d : Addr) (ts : List Addr), H p = some (.ins C dx fs) ∧ fs.lookup ("rows" : Str) = some (.ref r) ∧ fs.lookup ("names" : Str) = some (.ref n) ∧ fs.lookup ("_arities" : Str) = some (.ref d) ∧
    (∀ m : Str, ¬ m = Str.ofString "rows" → ¬ m = Str.ofString "names" → ¬ m = Str.ofString "_arities" → fs.lookup m = none) ∧ H r = some (.tup (ts.map V.ref)) ∧ ts.length = ks.length ∧ Dp K H (.ref r) (kd ks) ∧ H n = some (.tup (ks.map fun q => V.str q.1)) ∧ H d = some (.dK (kvOf (vv ks))) ∧
    (∀ (i : Nat) (t : Addr) (q : Str × Int), ts[i]? = some t → ks[i]? = some q → H t = some (.tup [.str q.1, .int q.2])) := by
  obtain ⟨dx, fs, r, n, d, ts, h1, h2, h3, h4, h5, h6, h7, h8, h9, h10⟩ := k.ob
  have l : ts.length = ks.length := by rw [h7]; simp [vv]
  have f : ∀ (i : Nat) (t : Addr) (q : Str × Int), ts[i]? = some t → ks[i]? = some q → H t = some (.tup [.str q.1, .int q.2]) := fun i t q e1 e2 => h8 i t (q.1, .int q.2) e1 (by unfold vv; rw [List.getElem?_map, e2]; rfl)
  exact ⟨dx, fs, r, n, d, ts, h1, h2, h3, h4, h5, h6, l, .tup (SqT.of h6) (dpAll_pd ks ts l f), by rw [h9]; simp [vv], h10, f⟩
def spKEq (C : Addr) : Sp := fun vs H Q _ => ∃ (p : Addr) (y : V) (ks : List (Str × Int)), vs = [.ref p, y] ∧ KindsAt C H p (vv ks) ∧ (∀ q ∈ ks, PyData.strOk q.1 = true) ∧
  ((∃ (b : Addr) (ls : List (Str × Int)), y = .ref b ∧ KindsAt C H b (vv ls) ∧ (∀ q ∈ ls, PyData.strOk q.1 = true) ∧ Q (.bl (decide (ks = ls))) H) ∨ ∃ (b : Addr) (zs : List V), y = .ref b ∧ H b = some (.tup zs) ∧ Q (.bl false) H)
section
variable {P : Program} {w : World} {K : PySem.W.Frag} {mg : Str → Option Value} {base : Heap}
theorem KC.ty {C : Addr} (k : KC K C) {H : Hp} {a dx : Addr} {fs : List (Str × V)} (h : H a = some (.ins C dx fs)) : TyX K H (.ref a) (.ref C) := .base (.ins h k.cl k.ca k.cg k.ct k.cm)
theorem kit_self {K : PySem.W.Frag} {c : Value} : PySem.W.kitOne K c c = some true := by
  unfold PySem.W.kitOne
  rw [beq_self_eq_true]
  rfl
theorem scKEq : FnScope ["self", "other"] ["self", "other"] (defScope sKinds_eq) := ⟨rfl, rfl, rfl, by decide +kernel, rfl, by decide +kernel, by decide +kernel⟩
theorem ok_keq {f C : Addr} {fd : FuncData} (F : Fun K "__eq__" "Kinds.__eq__" sKinds_eq f fd) (B : Bm mg) (KX : KC K C) (mK : mg "Kinds" = some (.ref C)) : FnOk P w K mg base CX0 1 f fd ["self", "other"] (spKEq C) := by
  refine F.ok scKEq (fun vs H Q E h => ?_) (fun cdv A outer s H vs Q E hr h => ?_)
  · obtain ⟨p, y, ks, rfl, _⟩ := h
    rfl
  · obtain ⟨p, y, ks, rfl, hk, ok, h⟩ := h
    refine ⟨_, pss_one (ps_ret (pe_and (pe_callB call_isi (by rfl) B.isinstance (by decide +kernel) (pa_cons (pv 1) (pa_cons (pe_glob (v := .ref C) rfl mK rfl) pa_nil))) (pe_one (pe_cmpR (op_eqD hr.units) (pe_fld (pv 0) rfl) (pe_fld (pv 1) rfl) (nomark _))))), ?_⟩
    obtain ⟨dx, fs, r, n, d, ts, h1, h2, h3, h4, h5, h6, h7, h8, h9, h10, _⟩ := hk.get (K := K)
    rcases h with ⟨b, ls, rfl, hb, okb, k⟩ | ⟨b, zs, rfl, hb, k⟩
    · obtain ⟨dx', fs', r', n', d', ts', g1, g2, g3, g4, g5, g6, g7, g8, g9, g10, _⟩ := hb.get (K := K)
      refine ⟨_, rfl, _, _, _, _, _, rfl, .own C, KX.ty g1, kit_self, _, rfl, iteT ?_⟩
      refine ⟨_, rfl, p, C, dx, fs, _, rfl, h1, KX.cl, KX.nR, h2, _, rfl, b, C, dx', fs', _, rfl, g1, KX.cl, KX.nR, g2, kd ks, kd ls, h8, g8, shaped_kd ok, shaped_kd okb, ?_⟩
      rw [show PyData.eqv (kd ks) (kd ls) = decide (ks = ls) from eqv_kd ks ls]
      exact k
    · exact ⟨_, rfl, _, _, _, _, _, rfl, .own C, .base (.tup hb), KX.isT, _, rfl, iteF k⟩
end
end Kx

set_option maxHeartbeats 4000000
namespace Kx
open PySem L2
theorem lab_ok {z : Str} (h : isLab z = true) : PyData.strOk z = true ∧ z.length ≤ 6 := by
  unfold isLab at h
  rw [Bool.and_eq_true, Bool.and_eq_true, decide_eq_true_eq, decide_eq_true_eq] at h
  refine ⟨?_, h.2.1⟩
  unfold PyData.strOk
  rw [Array.all_eq_true]
  intro i hi
  have h3 := List.all_eq_true.mp h.2.2 z.cps[i] (by simp)
  unfold isLow at h3
  rw [decide_eq_true_eq]
  simp only [Bool.and_eq_true, decide_eq_true_eq] at h3
  omega
def kIn (ks : List (Str × Int)) (x : V) : Bool := match x with
  | .str z => decide (z ∈ ks.map (·.1))
  | _ => false
theorem kIn_val (ks : List (Str × Int)) (z : Str) : (valV (kvOf (vv ks)) (Sum.inr z : Key)).isSome = kIn ks (.str z) := by
  rw [kv_in]
  show decide (z ∈ (vv ks).map (·.1)) = decide (z ∈ ks.map (·.1))
  unfold vv
  rw [List.map_map]
  rfl
def spKLen (C : Addr) : Sp := fun vs H Q _ => ∃ (p : Addr) (ks : List (Str × Int)), vs = [.ref p] ∧ KindsAt C H p (vv ks) ∧ Q (.int (ks.length : Nat)) H
def spKIn (C : Addr) : Sp := fun vs H Q _ => ∃ (p : Addr) (x : V) (n : String) (ks : List (Str × Int)), vs = [.ref p, x] ∧ KindsAt C H p (vv ks) ∧ Kd H x n ∧ Q (.bl (kIn ks x)) H
def kAr (ks : List (Str × Int)) (x : V) : Option V := match x with
  | .str z => valV (kvOf (vv ks)) (Sum.inr z : Key)
  | _ => none
theorem kAr_in (ks : List (Str × Int)) (x : V) : (kAr ks x).isSome = kIn ks x := by
  cases x with
  | str z => exact kIn_val ks z
  | _ => rfl
def spKAr (C CN : Addr) : Sp := fun vs H Q E => ∃ (p : Addr) (x : V) (n : String) (ks : List (Str × Int)), vs = [.ref p, x] ∧ KindsAt C H p (vv ks) ∧ Kd H x n ∧
  match kAr ks x with
  | some v => Q v H
  | none => ∀ d H', H d = none → Same H H' → H' d = some (.xd [("name", x)]) → E (.ref CN) (some d) H'
section
variable {P : Program} {w : World} {K : PySem.W.Frag} {mg : Str → Option Value} {base : Heap}
theorem scKLen : FnScope ["self"] ["self"] (defScope sKinds_len) := ⟨rfl, rfl, rfl, by decide +kernel, rfl, by decide +kernel, by decide +kernel⟩
theorem ok_klen {f C : Addr} {fd : FuncData} (F : Fun K "__len__" "Kinds.__len__" sKinds_len f fd) (T : Bl mg) (KX : KC K C) : FnOk P w K mg base CX0 1 f fd ["self"] (spKLen C) := by
  refine F.ok scKLen (fun vs H Q E h => ?_) (fun cdv A outer s H vs Q E hr h => ?_)
  · obtain ⟨p, ks, rfl, _⟩ := h
    rfl
  · obtain ⟨p, ks, rfl, hk, k⟩ := h
    obtain ⟨dx, fs, r, n, d, ts, h1, h2, h3, h4, h5, h6, h7, h8, h9, h10, _⟩ := hk.get (K := K)
    refine ⟨_, pss_one (ps_ret (pe_callB call_len_seq (by rfl) T.len PySem.boot_len (pa_cons (pe_fld (pv 0) rfl) pa_nil))), ?_⟩
    refine ⟨_, rfl, p, C, dx, fs, _, rfl, h1, KX.cl, KX.nR, h2, r, _, rfl, .inr (SqT.of h6), ?_⟩
    rw [List.length_map, h7]
    exact k
theorem scKIter : FnScope ["self"] ["self"] (defScope sKinds_iter) := ⟨rfl, rfl, rfl, by decide +kernel, rfl, by decide +kernel, by decide +kernel⟩
/-- where the names stand -/
def NamesOf (fs : List (Str × V)) (t : Addr) (_ : List V) : Prop := fs.lookup ("names" : Str) = some (.ref t)
theorem ok_kiter {f C : Addr} {fd : FuncData} (F : Fun K "__iter__" "Kinds.__iter__" sKinds_iter f fd) (mI : mg "iter" = none) (KX : KC K C) : FnA P w K mg base CX0 1 f fd ["self"] (spIterT K C NamesOf) := by
  refine okA F scKIter (fun A s vs H Q E h => ?_) (fun cdv A outer s H vs Q E hr h => ?_)
  · obtain ⟨a, dx, fs, rfl, _⟩ := h
    rfl
  · obtain ⟨a, dx, fs, rfl, h1, t, zs, hT, hq, k⟩ := h
    refine ⟨_, pss_one (ps_ret (pe_callB call_iterT (by rfl) mI (by decide +kernel) (pa_cons (pe_fld (pv 0) rfl) pa_nil))), ?_⟩
    refine ⟨_, rfl, a, C, dx, fs, _, rfl, h1, KX.cl, KX.nN, hT, t, zs, rfl, hq, fun it e1 e2 => k it e1 e2⟩
theorem scKIn : FnScope ["self", "thing"] ["self", "thing"] (defScope sKinds_contains) := ⟨rfl, rfl, rfl, by decide +kernel, rfl, by decide +kernel, by decide +kernel⟩
theorem ok_kin {f C : Addr} {fd : FuncData} (F : Fun K "__contains__" "Kinds.__contains__" sKinds_contains f fd) (B : Bm mg) (KX : KC K C) : FnOk P w K mg base CX0 1 f fd ["self", "thing"] (spKIn C) := by
  refine F.ok scKIn (fun vs H Q E h => ?_) (fun cdv A outer s H vs Q E hr h => ?_)
  · obtain ⟨p, x, n, ks, rfl, _⟩ := h
    rfl
  · obtain ⟨p, x, n, ks, rfl, hk, kd', k⟩ := h
    have hu := hu_of hr
    obtain ⟨dx, fs, r, n', d, ts, h1, h2, h3, h4, h5, h6, h7, h8, h9, h10, _⟩ := hk.get (K := K)
    refine ⟨_, pss_one (ps_ret (pe_and (pe_callB call_isi (by rfl) B.isinstance (by decide +kernel) (pa_cons (pv 1) (pa_cons (pe_bltn (v := .ty "str") (by rfl) B.str (by decide +kernel) rfl) pa_nil))) (pe_one (pe_cmp (pc_din hu (pv 1) (pe_fld (pv 0) rfl)) rfl)))), ?_⟩
    refine ⟨_, rfl, x, _, _, _, _, rfl, .ty _, kd'.ty, kit_ty (kit_str kd'.kits), _, rfl, ?_⟩
    cases kd' with
    | str z =>
      refine iteT ⟨_, rfl, _, rfl, p, C, dx, fs, _, rfl, h1, KX.cl, KX.nA, h4, d, _, rfl, DGet.k (k := Sum.inr z) h10, ?_⟩
      rw [kIn_val]
      exact k
    | _ => exact iteF k
end
end Kx

set_option maxHeartbeats 4000000
namespace Kx
open PySem PySem.Spec PyProof.Rows L2
section
variable {X : Cx} {CX : CXT} {k : Nat} {f C : Addr} {fd : FuncData} {ps : List Str} {sp : Sp} {x m : Str} {p pos apos : Pos} {e o : Expr} {es : List Expr} {t : TA} {ta : TE} {Ew : L2.St → XK}
/-- C(..) that may be refused, what is wished then depending on the slots -/
theorem run_makeS {pins : List (Addr × Obj)} {σ : L2.St} {H : Hp} {s : Shared} {Q : VK} {us : List Value} {vs : List V} (M : Mk X.K C f) (F : FnOk X.prog X.w X.K X.mg X.base CX k f fd ps sp) (hr : Room (k + 1) X.A) (hb : Binds X.K fd ps [])
    (hx : PassesAt CX X σ (Ew σ)) (I : Inv X pins σ H s) (r : Vals vs us)
    (h : ∀ x dx, H x = none → H dx = none → dx ≠ x → sp (.ref x :: vs) (upd (upd H dx (.own x)) x (.ins C dx [])) (fun v H2 => v = .non ∧ Q (.ref x) H2) (Ew σ)) :
    wpAny (model X.prog X.w) X.A (call (.ref C) us) (EP X pins σ Q) X.xe s := by
  have hq := h (s.heap.objs.size + 1) s.heap.objs.size (I.hok.fresh (Nat.le_succ _)) (I.hok.fresh (Nat.le_refl _)) (Nat.ne_of_lt (Nat.lt_succ_self _))
  have J := Inv.made (C := C) I
  have r2 : Vals (V.ref (s.heap.objs.size + 1) :: vs) (Value.ref (s.heap.objs.size + 1) :: us) := .cons rfl r
  have hl : (Value.ref (s.heap.objs.size + 1) :: us ++ []).length = ps.length := by
    have e := r2.length
    rw [F.len _ _ _ _ hq] at e
    rw [List.append_nil]
    exact e.symm
  have bd := hb _ (Value.ref (s.heap.objs.size + 1) :: us) J.kIn hl
  rw [List.append_nil] at bd
  refine wpAny_call (make_map (f := f) I.kIn M.makes M.init (beq_iff_eq.mp M.fn) (codeAny_mono (F.run _ X.stack _ _ ⟨Value.ref (s.heap.objs.size + 1) :: us, []⟩ (Value.ref (s.heap.objs.size + 1) :: us) _ _ (Ew σ) (hr.make C us []) (J.env0.make C us []) bd r2 hq) fun r s' got => ?_))
  rcases r with e | (_ | _ | _ | u)
  · exact hx pins _ _ e s' J got
  · exact False.elim got
  · exact False.elim got
  · exact False.elim got
  · obtain ⟨v, H', J3, rv, ev, q3⟩ := J.after got
    subst ev
    exact ⟨rv, ⟨V.ref (s.heap.objs.size + 1), H', J3, rfl, q3⟩⟩
def tMakeS (C : Addr) (sp : Sp) (Ew : L2.St → XK) (t : TA) : TE := fun σ H Q => t σ H fun vs H1 => ∀ x dx, H1 x = none → H1 dx = none → dx ≠ x → sp (.ref x :: vs) (upd (upd H1 dx (.own x)) x (.ins C dx [])) (fun v H2 => v = .non ∧ Q (.ref x) H2) (Ew σ)
theorem pe_makeS (M : Mk X.K C f) (F : FnOk X.prog X.w X.K X.mg X.base CX k f fd ps sp) (hr : Room (k + 1) X.A) (hg : Gl X x) (hm : X.mg x = some (.ref C)) (hb : Binds X.K fd ps []) (hx : ∀ σ, PassesAt CX X σ (Ew σ))
    (ha : PA X (e :: es) t) (hdb : (x == ("__debug__" : Str)) = false := by decide) (he : starEach (e :: es) X.env = (false, eval e X.env) :: starEach es X.env := by rfl) (hpl : (backTo pos (starEach es X.env)).any (·.1) = false := by rfl) :
    PE X (.Call (.Name x p) (e :: es) [] pos) (tMakeS C sp Ew t) := by
  refine ⟨fun pins s σ H Q I h => wpAny_Call_Name_kw (ld_glob I hg hm ?_ hdb)⟩
  refine PySem.W.callWith_K (h₀ := X.base) I.ok.mod.kin M.kp (thn (ha.run pos pins s σ H _ I h) fun us s1 ⟨vs, H1, J, r, q⟩ => ⟨J.kIn, ?_⟩) he hpl
  exact run_makeS M F hr hb (hx σ) J r q
/-- o.m(..) that may be refused -/
def tMethW (C : Addr) (m : Str) (sp : Sp) (Ew : L2.St → XK) (ta : TE) (t : TA) : TE := fun σ H Q => ta σ H fun x H1 => ∃ a dx fs, x = .ref a ∧ H1 a = some (.ins C dx fs) ∧ fs.lookup m = none ∧ t σ H1 fun vs H2 => sp (.ref a :: vs) H2 Q (Ew σ)
theorem pe_methW {pl : Sem Bool} (he : PE X o ta) (c : Cls X.K C) (hm : Meth X.K C m f) (F : FnOk X.prog X.w X.K X.mg X.base CX k f fd ps sp) (hr : Room k X.A) (hb : Binds X.K fd ps []) (hx : ∀ σ, PassesAt CX X σ (Ew σ)) (ha : PA X (e :: es) t)
    (hst : starEach (e :: es) X.env = (false, eval e X.env) :: starEach es X.env := by rfl) (hpl : (backTo pos (starEach es X.env)).any (·.1) = false := by rfl)
    (ht : eval (.Call (.Attribute o m apos) (e :: es) [] pos) X.env = (do
      let ov ← eval o X.env
      standAt apos.atName
      let (f, first) ← holding [ov] (getMethod ov m pl)
      callWith pos f first (backTo pos (starEach (e :: es) X.env)) (backToKw pos (keywordEach [] X.env))) := by rfl) :
    PE X (.Call (.Attribute o m apos) (e :: es) [] pos) (tMethW C m sp Ew ta t) := by
  refine ⟨fun pins s σ H Q I h => PySem.W.methodCall_KW (pl := pl) (thn (he.run pins s σ H _ I h) fun u s1 ⟨x, H1, J, rx, a, dx, fs, ex, ea, l, q⟩ => ?_) ht⟩
  subst ex
  obtain rfl : u = Value.ref a := rx
  refine getmeth_ok J ea c hm l (PySem.W.callWith_K (first := [.ref a]) (h₀ := X.base) I.ok.mod.kin hm.kp (thn (ha.run pos pins s1 σ H1 _ J q) fun us s2 ⟨vs, H2, J2, r, q2⟩ => ⟨J2.kIn, ?_⟩) hst hpl)
  exact run_fnS (us := .ref a :: us) (vs := .ref a :: vs) F hr hb (hx σ) J2 (.cons rfl r) q2
end
section
variable {P : Program} {w : World} {K : PySem.W.Frag} {mg : Str → Option Value} {base : Heap}
/-- an own method as the library's lemmas want it -/
structure OwnM (P : Program) (w : World) (K : PySem.W.Frag) (mg : Str → Option Value) (base : Heap) (C : Addr) (m : Str) (k : Nat) (ps : List Str) (sp : Sp) (g : Addr) (fd : FuncData) : Prop where
  M : Meth K C m g
  G : FnOk P w K mg base CX0 k g fd ps sp
  b : Binds K fd ps []
theorem OwnM.raw {C g : Addr} {m : Str} {k : Nat} {ps : List Str} {sp : Sp} {fd : FuncData} (o : OwnM P w K mg base C m k ps sp g fd) : FnR P w K mg base CX0 k g sp := (o.G.raw o.b .nil).imp fun vs H Q E h => by rw [List.append_nil]; exact h
end
end Kx

set_option maxHeartbeats 4000000
namespace Kx
open PySem L2
theorem pi_or {X : Cx} {t e : Expr} {u v : TI} (h : PI X t e u) (h' : PI X t e v) : PI X t e (fun σ H R => u σ H R ∨ v σ H R) :=
  ⟨fun pins s σ H R I q => q.elim (fun q => h.run pins s σ H R I q) fun q => h'.run pins s σ H R I q⟩
/-- a deed, as it stands -/
inductive DeedIs (H : Hp) : V → Option (List V) → Prop where
  | lst {b : Addr} {xs : List V} (h : H b = some (.lst xs)) (t : ∀ x ∈ xs, ∃ n, Thing H x n) (l : xs.length ≤ 100) : DeedIs H (.ref b) (some xs)
  | tup {b : Addr} {xs : List V} (h : H b = some (.tup xs)) (t : ∀ x ∈ xs, ∃ n, Thing H x n) (l : xs.length ≤ 100) : DeedIs H (.ref b) (some xs)
  | oth {y : V} {n : String} (h : Kd H y n) (l : seqV n = false) : DeedIs H y none
theorem DeedIs.keep {H H' : Hp} {y : V} {r : Option (List V)} (h : DeedIs H y r) (s : Same H H') : DeedIs H' y r := by
  cases h with
  | lst h t l => exact .lst (s _ _ h) (fun x m => (t x m).imp fun n q => q.keep s) l
  | tup h t l => exact .tup (s _ _ h) (fun x m => (t x m).imp fun n q => q.keep s) l
  | oth h l => exact .oth (h.keep s) l
theorem DeedIs.kd {H : Hp} {y : V} {r : Option (List V)} (h : DeedIs H y r) : ∃ n, Kd H y n ∧ (seqV n = false → r = none) := by
  cases h with
  | lst h a l => exact ⟨_, .lst _ _ h, fun z => nomatch z⟩
  | tup h a l => exact ⟨_, .tup _ _ h, fun z => nomatch z⟩
  | oth h l => exact ⟨_, h, fun _ => rfl⟩
/-- the number of persons of the kind -/
def kNum (ks : List (Str × Int)) (x : V) : Option Int := match x with
  | .str z => (ks.find? fun q => decide (q.1 = z)).map (·.2)
  | _ => none
theorem kAr_num : ∀ (ks : List (Str × Int)) (x : V), kAr ks x = (kNum ks x).map V.int := by
  intro ks x
  cases x with
  | str z =>
    show valV (kvOf (vv ks)) (Sum.inr z : Key) = ((ks.find? fun q => decide (q.1 = z)).map (·.2)).map V.int
    induction ks with
    | nil => rfl
    | cons q ks ih =>
      by_cases e : q.1 = z
      · have e1 : valV (kvOf (vv (q :: ks))) (Sum.inr z : Key) = some (V.int q.2) := valV_pos (congrArg Sum.inr e)
        rw [e1, List.find?_cons_of_pos (by simpa using e)]
        rfl
      · have e1 : valV (kvOf (vv (q :: ks))) (Sum.inr z : Key) = valV (kvOf (vv ks)) (Sum.inr z : Key) := valV_neg fun h => e (Sum.inr.inj h)
        rw [e1, ih, List.find?_cons_of_neg (by simpa using e)]
  | _ => rfl
def deedWord (ks : List (Str × Int)) : Option (List V) → Option Str
  | none => some "deed"
  | some [] => some "deed"
  | some (x :: xs) => match kNum ks x with
    | none => some "kind"
    | some k => if ((xs.length : Nat) : Int) = k then (if xs.all labV then none else some "person") else some "arity"
def spFault (C : Addr) : Sp := fun vs H Q _ => ∃ (p : Addr) (y : V) (r : Option (List V)) (ks : List (Str × Int)), vs = [.ref p, y] ∧ KindsAt C H p (vv ks) ∧ DeedIs H y r ∧ (∀ q ∈ ks, 0 ≤ q.2 ∧ q.2 ≤ 2) ∧ ∀ H', Same H H' → Q (wordV (deedWord ks r)) H'
theorem atI0 (x : V) (xs : List V) : atI (x :: xs) 0 = some x := by
  simp [atI, ixN]
theorem cut1 (x : V) (xs : List V) : cutV (x :: xs) (some 1) none = xs := by
  unfold cutV
  have e1 : HT.sIx (x :: xs).length 0 (some 1) = 1 := by
    simp [HT.sIx]
    try omega
  have e2 : HT.sIx (x :: xs).length (x :: xs).length none = (x :: xs).length := rfl
  rw [e1, e2]
  simp
theorem whole (x : V) (xs : List V) : ¬ (HT.sIx (x :: xs).length 0 (some 1) = 0 ∧ HT.sIx (x :: xs).length (x :: xs).length none = (x :: xs).length) := by
  have e1 : HT.sIx (x :: xs).length 0 (some 1) = 1 := by
    simp [HT.sIx]
    try omega
  rw [e1]
  exact fun h => absurd h.1 (by decide)
section
variable {P : Program} {w : World} {K : PySem.W.Frag} {mg : Str → Option Value} {base : Heap}
theorem scFault : FnScope ["self", "deed", "person"] ["self", "deed"] (defScope sKinds_fault) := ⟨rfl, rfl, rfl, by decide +kernel, rfl, by decide +kernel, by decide +kernel⟩
theorem ok_fault {f C gI : Addr} {fd fdI : FuncData} (F : Fun K "fault" "Kinds.fault" sKinds_fault f fd) (T : Bl mg) (KX : KC K C) (OI : OwnM P w K mg base C "__contains__" 1 ["self", "thing"] (spKIn C) gI fdI) (Sq : HasF P w K mg base "is_sequence" 1 ["thing"] spSeq) (Lb : HasF P w K mg base "is_label" 1 ["thing"] spLabel) :
    FnOk P w K mg base CX0 2 f fd ["self", "deed"] (spFault C) := by
  obtain ⟨f1, fd1, Sq⟩ := Sq; obtain ⟨f2, fd2, Lb⟩ := Lb
  refine F.ok scFault (fun vs H Q E h => ?_) (fun cdv A outer s H vs Q E hr h => ?_)
  · obtain ⟨p, y, r, ks, rfl, _⟩ := h
    rfl
  · obtain ⟨p, y, r, ks, rfl, hk, hy, kb, k⟩ := h
    have hu := hu_of hr
    refine ⟨_, (C8.pss_cut (ps_if (PW.pt (pw_or (pt_not (pt_val (pe_call Sq.G hr (by rfl) Sq.m Sq.kp Sq.b .nil pass0 (pa_cons (pv 1) pa_nil)))) (pw_or1 (pt_cmpR op_eq (pe_callB call_len_seq (by rfl) T.len PySem.boot_len (pa_cons (pv 1) pa_nil)) pe_int (nomark _))))) (pss_one (ps_ret pe_str)) pss_nil)
    (pss_cons (ps_if (pt_cmpR (op_notInOwn OI.M.at_ OI.M.fn OI.raw hr pass0) (pe_ix ix_seq (pv 1) pe_int (fun _ _ => rfl)) (pv 0) (by rfl)) (pss_one (ps_ret pe_str)) pss_nil)
    (pss_cons (ps_if (pt_cmpR op_ne (pe_callB call_len_seq (by rfl) T.len PySem.boot_len (pa_cons (pv 1) pa_nil)) (pe_op op_add pe_int (pe_dget hu (pe_fld (pv 0) rfl) (pe_ix ix_seq (pv 1) pe_int (fun _ _ => rfl)) (fun _ _ => rfl))) (nomark _)) (pss_one (ps_ret pe_str)) pss_nil)
    (C8.pss_cut (ps_for PassesOwn.never rfl (pi_or (pi_list (pe_slice sl_list (pv 1) (po_some pe_int) po_none)) (pi_tup (pe_slice sl_tup (pv 1) (po_some pe_int) po_none))) (pg_name (i := 2) scFault.nd rfl (Or.inl rfl))
        (pss_one (ps_if (pt_not (pt_val (pe_call Lb.G hr (by rfl) Lb.m Lb.kp Lb.b .nil pass0 (pa_cons (pv 2) pa_nil)))) (pss_one (ps_ret pe_str)) pss_nil)))
    (pss_one (ps_ret pe_non)))))), ?_⟩
    obtain ⟨dx, fs, r0, n', d, ts, h1, h2, h3, h4, h5, h6, h7, h8, h9, h10, _⟩ := hk.get (K := K)
    refine ⟨fun σ H1 => ∃ (b : Addr) (x : V) (xs : List V), y = .ref b ∧ r = some (x :: xs) ∧ σ = [some (.ref p), some (.ref b), none] ∧ Same H H1 ∧ (H1 b = some (.lst (x :: xs)) ∨ H1 b = some (.tup (x :: xs))) ∧ (∀ z ∈ x :: xs, ∃ n, Thing H1 z n) ∧ xs.length ≤ 100, ?_, ?_⟩
    · obtain ⟨n, kd', kn⟩ := hy.kd
      refine ⟨_, rfl, y, n, rfl, kd', fun H1 s1 => ⟨_, rfl, ?_⟩⟩
      have hy1 := hy.keep s1
      cases e1 : seqV n with
      | false => exact iteT (by have e := kn e1; subst e; exact k _ s1)
      | true =>
        refine iteF ?_
        cases hy1 with
        | lst h t l =>
          rename_i b xs
          refine ⟨_, rfl, _, _, rfl, .inl (SqL.of h), rfl, _, rfl, ?_⟩
          cases xs with
          | nil => exact iteT (k _ s1)
          | cons x xs =>
            rw [decide_eq_false (fun e => by have := V.int.inj e; simp at this; omega)]
            refine iteF ⟨b, x, xs, rfl, rfl, rfl, s1, .inl h, t, by simp at l; omega⟩
        | tup h t l =>
          rename_i b xs
          refine ⟨_, rfl, _, _, rfl, .inr (SqT.of h), rfl, _, rfl, ?_⟩
          cases xs with
          | nil => exact iteT (k _ s1)
          | cons x xs =>
            rw [decide_eq_false (fun e => by have := V.int.inj e; simp at this; omega)]
            refine iteF ⟨b, x, xs, rfl, rfl, rfl, s1, .inr h, t, by simp at l; omega⟩
        | oth h l =>
          rw [← (kd'.keep s1).uniq h, e1] at l
          cases l
    rintro σ H1 ⟨b, x, xs, rfl, rfl, rfl, s1, hb, ht, hl⟩
    obtain ⟨nx, tx⟩ := ht x (.head _)
    have hk1 := hk.keep s1
    have ixr : ∀ {Q' : V → Hp → Prop}, Q' x H1 → rIx K (.ref b) (.int 0) H1 Q' := fun q => by
      rcases hb with hb | hb
      · exact .inl ⟨_, _, _, _, rfl, rfl, SqL.of hb, atI0 _ _, q⟩
      · exact .inr (.inl ⟨_, _, _, _, rfl, rfl, SqT.of hb, atI0 _ _, q⟩)
    refine ⟨_, rfl, ixr ⟨_, rfl, p, dx, fs, rfl, s1 _ _ h1, p, x, nx, ks, rfl, hk1, tx.kd, _, rfl, _, rfl, ?_⟩⟩
    have e0 := kAr_in ks x
    have e2 := kAr_num ks x
    cases e1 : kNum ks x with
    | none =>
      rw [e1] at e2
      rw [e2] at e0
      rw [← e0]
      refine iteT ?_
      have q := k _ s1
      rw [show deedWord ks (some (x :: xs)) = some (Str.ofString "kind") by show (match kNum ks x with | none => _ | some k => _) = _; rw [e1]] at q
      exact q
    | some m =>
      rw [e1] at e2
      rw [e2] at e0
      rw [← e0]
      have mk : m = m ∧ 0 ≤ m ∧ m ≤ 2 := by
        refine ⟨rfl, ?_⟩
        cases x with
        | str z =>
          have e1 : (ks.find? fun q => decide (q.1 = z)).map (·.2) = some m := e1
          cases e3 : ks.find? fun q => decide (q.1 = z) with
          | none => rw [e3] at e1; cases e1
          | some q =>
            rw [e3] at e1
            have e4 : q.2 = m := Option.some.inj e1
            rw [← e4]
            exact kb q (List.mem_of_find?_eq_some e3)
        | _ => cases e1
      have word : deedWord ks (some (x :: xs)) = if ((xs.length : Nat) : Int) = m then (if xs.all labV then none else some (Str.ofString "person")) else some (Str.ofString "arity") := by
        show (match kNum ks x with | none => _ | some k => _) = _
        rw [e1]
      rw [word] at k
      refine iteF ⟨_, rfl, b, x :: xs, rfl, ?_, ?_⟩
      · rcases hb with hb | hb
        · exact .inl (SqL.of hb)
        · exact .inr (SqT.of hb)
      have get : DGet H1 d x (some (V.int m)) := by
        cases x with
        | str z =>
          have e2 : valV (kvOf (vv ks)) (Sum.inr z : Key) = some (V.int m) := e2
          rw [← e2]
          exact DGet.k (k := Sum.inr z) (s1 _ _ h10)
        | _ => cases e1
      refine ⟨_, rfl, p, C, dx, fs, _, rfl, s1 _ _ h1, KX.cl, KX.nA, h4, _, rfl, ?_⟩
      refine ixr ⟨d, V.int m, rfl, get, ?_⟩
      refine ⟨_, _, rfl, rfl, rfl, _, rfl, ?_⟩
      have eqn : (V.int (((x :: xs).length : Nat) : Int) = V.int (1 + m)) ↔ ((xs.length : Nat) : Int) = m := by
        constructor
        · intro e
          have := V.int.inj e
          simp at this
          omega
        · intro e
          simp
          omega
      refine ite2 (fun q1 => ?_) (fun q1 => ?_)
      · have n1 : ¬ ((xs.length : Nat) : Int) = m := fun e => by rw [decide_eq_true (eqn.mpr e)] at q1; cases q1
        have q := k _ s1
        rw [if_neg n1] at q
        exact q
      have e3 : ((xs.length : Nat) : Int) = m := by
        by_cases e : ((xs.length : Nat) : Int) = m
        · exact e
        · rw [decide_eq_false (fun h => e (eqn.mp h))] at q1
          exact absurd rfl q1
      rw [if_pos e3] at k
      -- the persons
      refine ⟨fun σ H2 => xs.all labV = true ∧ Same H H2, ?_, ?_⟩
      · rcases hb with hb | hb
        · refine .inl ⟨_, rfl, _, rfl, b, _, rfl, SqL.of hb, fun q hq => ⟨q, rfl, ⟨_, SqL.of upd_same⟩, for_list (K := K) (a := q) (xs := cutV (x :: xs) (some 1) none) (fun i σ H2 => ∃ v, σ = [some (.ref p), some (.ref b), v] ∧ Same (upd H1 q (.lst (cutV (x :: xs) (some 1) none))) H2 ∧ (xs.take i).all labV = true)
            ⟨none, rfl, Same.refl _, rfl⟩ (fun i σ H2 _ ⟨_, _, s2, _⟩ => SqL.of (s2 _ _ upd_same)) ?_ ?_⟩⟩
          · rintro i z σ H2 hi ⟨v, rfl, s2, al⟩
            rw [cut1] at hi
            have s3 : Same H1 H2 := (sameUpd (Same.refl _) hq).trans s2
            obtain ⟨n, tz⟩ := ht z (.tail _ (List.mem_of_getElem? hi))
            refine ⟨_, rfl, z, n, rfl, (tz.keep s3).kd, (fun y e => Nat.le_of_lt (small1000 (by have := (tz.fine y e).2; omega))), _, rfl, ?_⟩
            cases e5 : labV z with
            | false =>
              refine iteT ?_
              have q3 := k _ (s1.trans s3)
              rw [if_neg (fun h => by rw [List.all_eq_true.mp h z (List.mem_of_getElem? hi)] at e5; cases e5)] at q3
              exact q3
            | true =>
              refine iteF ⟨some z, rfl, s2, ?_⟩
              rw [take_succ_of hi, List.all_append, al]
              simp [e5]
          · rintro σ H2 ⟨v, rfl, s2, al⟩
            rw [cut1, List.take_length] at al
            exact ⟨al, s1.trans ((sameUpd (Same.refl _) hq).trans s2)⟩
        · refine .inr ⟨_, rfl, _, rfl, b, _, rfl, SqT.of hb, whole x xs, fun q hq => ⟨q, rfl, ⟨_, SqT.of upd_same⟩, for_tup (K := K) (a := q) (xs := cutV (x :: xs) (some 1) none) (fun i σ H2 => ∃ v, σ = [some (.ref p), some (.ref b), v] ∧ Same (upd H1 q (.tup (cutV (x :: xs) (some 1) none))) H2 ∧ (xs.take i).all labV = true)
            ⟨none, rfl, Same.refl _, rfl⟩ (fun i σ H2 _ ⟨_, _, s2, _⟩ => SqT.of (s2 _ _ upd_same)) ?_ ?_⟩⟩
          · rintro i z σ H2 hi ⟨v, rfl, s2, al⟩
            rw [cut1] at hi
            have s3 : Same H1 H2 := (sameUpd (Same.refl _) hq).trans s2
            obtain ⟨n, tz⟩ := ht z (.tail _ (List.mem_of_getElem? hi))
            refine ⟨_, rfl, z, n, rfl, (tz.keep s3).kd, (fun y e => Nat.le_of_lt (small1000 (by have := (tz.fine y e).2; omega))), _, rfl, ?_⟩
            cases e5 : labV z with
            | false =>
              refine iteT ?_
              have q3 := k _ (s1.trans s3)
              rw [if_neg (fun h => by rw [List.all_eq_true.mp h z (List.mem_of_getElem? hi)] at e5; cases e5)] at q3
              exact q3
            | true =>
              refine iteF ⟨some z, rfl, s2, ?_⟩
              rw [take_succ_of hi, List.all_append, al]
              simp [e5]
          · rintro σ H2 ⟨v, rfl, s2, al⟩
            rw [cut1, List.take_length] at al
            exact ⟨al, s1.trans ((sameUpd (Same.refl _) hq).trans s2)⟩
      rintro σ H2 ⟨al, s2⟩
      have q := k _ s2
      rw [al] at q
      exact q
end
end Kx

set_option maxHeartbeats 4000000
namespace Kx
open PySem PySem.Spec PyProof.Rows L2
/-! plain data of which dicts of one pair are part, and its repr -/
inductive Dd (H : Hp) : Nat → V → PyData → Prop where
  | non {n : Nat} : Dd H n .non .none
  | bl {n : Nat} (b : Bool) : Dd H n (.bl b) (.bool b)
  | int {n : Nat} (i : Int) (h : i.natAbs < 10 ^ 25) : Dd H n (.int i) (.int i)
  | str {n : Nat} (z : Str) (h : Fine z) : Dd H n (.str z) (.str z)
  | lst {n : Nat} {a : Addr} {xs : List V} {ds : List PyData} (h : H a = some (.lst xs)) (l : xs.length ≤ 10) (e : xs.length = ds.length) (f : ∀ (i : Nat) (x : V) (d : PyData), xs[i]? = some x → ds[i]? = some d → Dd H n x d) : Dd H (n + 1) (.ref a) (.list ds)
  | tup {n : Nat} {a : Addr} {xs : List V} {ds : List PyData} (h : H a = some (.tup xs)) (l : xs.length ≤ 10) (e : xs.length = ds.length) (f : ∀ (i : Nat) (x : V) (d : PyData), xs[i]? = some x → ds[i]? = some d → Dd H n x d) : Dd H (n + 1) (.ref a) (.tuple ds)
  | dct {n : Nat} {a : Addr} {z : Str} {v : V} {dv : PyData} (h : H a = some (.dK [(Sum.inr z, v)])) (hz : Fine z) (hv : Dd H n v dv) : Dd H (n + 1) (.ref a) (.dict [(.str z, dv)])
theorem Dd.keep {H H' : Hp} {n : Nat} {x : V} {d : PyData} (h : Dd H n x d) (s : Same H H') : Dd H' n x d := by
  induction h with
  | non => exact .non
  | bl b => exact .bl b
  | int i h => exact .int i h
  | str z h => exact .str z h
  | lst h l e f ih => exact .lst (s _ _ h) l e ih
  | tup h l e f ih => exact .tup (s _ _ h) l e ih
  | dct h hz hv ih => exact .dct (s _ _ h) hz ih
theorem Dd.up {H : Hp} {n : Nat} {x : V} {d : PyData} (h : Dd H n x d) : Dd H (n + 1) x d := by
  induction h with
  | non => exact .non
  | bl b => exact .bl b
  | int i h => exact .int i h
  | str z h => exact .str z h
  | lst h l e f ih => exact .lst h l e ih
  | tup h l e f ih => exact .tup h l e ih
  | dct h hz hv ih => exact .dct h hz ih
theorem Dd.thing {H : Hp} {n : Nat} {x : V} {d : PyData} (h : Dd H n x d) : ∃ t, Thing H x t := by
  cases h with
  | non => exact ⟨_, .non, fun z e => nomatch e⟩
  | bl b => exact ⟨_, .bl b, fun z e => nomatch e⟩
  | int i h => exact ⟨_, .int i, fun z e => nomatch e⟩
  | str z h => exact ⟨_, .str z, fun y e => by cases e; exact ⟨h.1, Nat.le_trans h.2 (by decide)⟩⟩
  | lst h l e f => exact ⟨_, .lst _ _ h, fun z e => nomatch e⟩
  | tup h l e f => exact ⟨_, .tup _ _ h, fun z e => nomatch e⟩
  | dct h hz hv => exact ⟨_, .dct _ _ h, fun z e => nomatch e⟩
/-- a bound of what it takes -/
def BB : Nat → Nat
  | 0 => 40
  | n + 1 => 10 * (BB n + 1) + 2
theorem BB_up : ∀ n, 40 ≤ BB n ∧ BB n ≤ BB (n + 1)
  | 0 => by decide
  | n + 1 => by
    have h := BB_up n
    have e1 : BB (n + 1) = 10 * (BB n + 1) + 2 := rfl
    have e2 : BB (n + 1 + 1) = 10 * (BB (n + 1) + 1) + 2 := rfl
    omega
/-- small, shown in few signs -/
def Sm (n : Nat) (d : PyData) : Prop := d.depth ≤ n ∧ d.showable = true ∧ d.leavesShort 30 = true ∧ d.bulk ≤ BB n
theorem all_sm {n : Nat} : ∀ {ds : List PyData}, (∀ d ∈ ds, Sm n d) → PyData.depthAll ds ≤ n ∧ PyData.showableAll ds = true ∧ PyData.leavesShortAll 30 ds = true ∧ PyData.bulkAll ds ≤ ds.length * (BB n + 1)
  | [], _ => ⟨Nat.zero_le _, rfl, rfl, by simp [PyData.bulkAll]⟩
  | d :: ds, h => by
    obtain ⟨h1, h2, h3, h4⟩ := h d (.head _)
    obtain ⟨g1, g2, g3, g4⟩ := all_sm fun e m => h e (.tail _ m)
    refine ⟨Nat.max_le.mpr ⟨h1, g1⟩, ?_, ?_, ?_⟩
    · show (PyData.showable d && PyData.showableAll ds) = true
      rw [h2, g2]
      rfl
    · show (PyData.leavesShort 30 d && PyData.leavesShortAll 30 ds) = true
      rw [h3, g3]
      rfl
    · show PyData.bulk d + 1 + PyData.bulkAll ds ≤ (ds.length + 1) * (BB n + 1)
      rw [Nat.add_mul, Nat.one_mul]
      omega
theorem int_short {i : Int} (h : i.natAbs < 10 ^ 25) : decide (i.natAbs.log2 < 1920) = true ∧ (PyData.shown (.int i)).length ≤ 30 := by
  refine ⟨decide_eq_true ?_, ?_⟩
  · by_cases e : i.natAbs = 0
    · rw [e]; decide
    · have : i.natAbs < 2 ^ 84 := by omega
      have := (Nat.log2_lt e).mpr this
      omega
  · have e := int_text_length_le10 (k := 25) (by decide) h
    show (Str.ofString (toString i)).length ≤ 30
    rw [PySem.ofString_length]
    omega
theorem fine_signs {z : Str} (h : Fine z) : (z.cps.toList.all fun c => decide (c < 16 ^ 8)) = true := by
  have h1 := h.1
  unfold PyData.strOk at h1
  rw [← Array.all_toList] at h1
  refine List.all_eq_true.mpr fun c hc => decide_eq_true ?_
  have := of_decide_eq_true (List.all_eq_true.mp h1 c hc)
  omega
theorem str_sm {n : Nat} {z : Str} (h : Fine z) : Sm n (.str z) := by
  refine ⟨Nat.zero_le _, rfl, fine_signs h, ?_⟩
  have := h.2
  have := (BB_up n).1
  have e : PyData.bulk (.str z) = z.length := rfl
  omega
theorem Dd.sm {H : Hp} {n : Nat} {x : V} {d : PyData} (h : Dd H n x d) : Sm n d := by
  induction h with
  | non => exact ⟨Nat.zero_le _, rfl, rfl, Nat.zero_le _⟩
  | bl b => exact ⟨Nat.zero_le _, rfl, rfl, Nat.zero_le _⟩
  | int i h => exact ⟨Nat.zero_le _, (int_short h).1, decide_eq_true (int_short h).2, Nat.zero_le _⟩
  | str z h => exact str_sm h
  | @lst n a xs ds h l e f ih =>
    obtain ⟨g1, g2, g3, g4⟩ := all_sm (n := n) (ds := ds) fun d hd => by
      obtain ⟨i, hi⟩ := List.mem_iff_getElem?.mp hd
      have lt : i < xs.length := by rw [e]; exact (List.getElem?_eq_some_iff.mp hi).1
      exact ih i xs[i] d (List.getElem?_eq_getElem lt) hi
    refine ⟨Nat.succ_le_succ g1, g2, g3, ?_⟩
    have e1 : BB (n + 1) = 10 * (BB n + 1) + 2 := rfl
    have e2 : ds.length * (BB n + 1) ≤ 10 * (BB n + 1) := Nat.mul_le_mul_right _ (by omega)
    show PyData.bulkAll ds ≤ _
    omega
  | @tup n a xs ds h l e f ih =>
    obtain ⟨g1, g2, g3, g4⟩ := all_sm (n := n) (ds := ds) fun d hd => by
      obtain ⟨i, hi⟩ := List.mem_iff_getElem?.mp hd
      have lt : i < xs.length := by rw [e]; exact (List.getElem?_eq_some_iff.mp hi).1
      exact ih i xs[i] d (List.getElem?_eq_getElem lt) hi
    refine ⟨Nat.succ_le_succ g1, g2, g3, ?_⟩
    have e1 : BB (n + 1) = 10 * (BB n + 1) + 2 := rfl
    have e2 : ds.length * (BB n + 1) ≤ 10 * (BB n + 1) := Nat.mul_le_mul_right _ (by omega)
    show PyData.bulkAll ds ≤ _
    omega
  | @dct n a z v dv h hz hv ih =>
    obtain ⟨h1, h2, h3, h4⟩ := ih
    obtain ⟨g1, g2, g3, g4⟩ := str_sm (n := n) hz
    refine ⟨?_, ?_, ?_, ?_⟩
    · show max (max (PyData.depth (.str z)) (PyData.depth dv)) 0 + 1 ≤ n + 1
      have : PyData.depth (.str z) = 0 := rfl
      omega
    · show (PyData.showable (.str z) && PyData.showable dv && true) = true
      rw [g2, h2]
      rfl
    · show (PyData.leavesShort 30 (.str z) && PyData.leavesShort 30 dv && true) = true
      rw [g3, h3]
      rfl
    · show PyData.bulk (.str z) + PyData.bulk dv + 2 + 0 ≤ _
      have e1 : BB (n + 1) = 10 * (BB n + 1) + 2 := rfl
      have e : PyData.bulk (.str z) = z.length := rfl
      have := hz.2
      omega
theorem Sm.fits {n : Nat} {d : PyData} (h : Sm n d) (l : n ≤ 4) : d.shown.length ≤ sizeLine := by
  have q := PyData.shown_le_bulk 30 (by decide) d h.2.2.1
  have b : BB n ≤ 413332 := by
    rcases (by omega : n = 0 ∨ n = 1 ∨ n = 2 ∨ n = 3 ∨ n = 4) with e | e | e | e | e <;> subst e <;> decide
  have := h.2.2.2
  rw [sizeLine_eq]
  omega
section
variable {X : Cx} {pins : List (Addr × Obj)} {σ : L2.St} {H : Hp} {s : Shared}
theorem readsAll_at {h : Heap} : ∀ {us : List Value} {ds : List PyData}, us.length = ds.length → (∀ (i : Nat) (u : Value) (d : PyData), us[i]? = some u → ds[i]? = some d → ∃ as, Reads h u d as) → ∃ as, ReadsAll h us ds as
  | [], [], _, _ => ⟨[], .nil⟩
  | [], _ :: _, e, _ => by cases e
  | _ :: _, [], e, _ => by cases e
  | u :: us, d :: ds, e, f => by
    obtain ⟨as, r1⟩ := f 0 u d rfl rfl
    obtain ⟨bs, r2⟩ := readsAll_at (us := us) (ds := ds) (Nat.succ.inj e) fun i u d h1 h2 => f (i + 1) u d h1 h2
    exact ⟨as ++ bs, .cons r1 r2⟩
def encK : Key → PyData
  | .inl i => .int i
  | .inr x => .str x
theorem mix_reads {h : Heap} {k : Key} {key : Value} (e : keyIs k key = true) : Reads h key (encK k) [] := by
  rcases keyIs_shape e with ⟨i, t, e1, e2⟩ | ⟨x, t, e1, e2⟩
  · subst e1; subst e2; exact .int i t
  · subst e1; subst e2; exact .str x t
/-- each shown as the library shows it -/
abbrev Shn (P : Program) (w : World) (h : Heap) (u : Value) (d : PyData) : Prop := ∃ bs, ReadAtMost h d.depth bs ∧ ReprK P w bs h d.depth u d.shown
theorem allK {P : Program} {w : World} {h : Heap} : ∀ {us : List Value} {ds : List PyData}, us.length = ds.length → (∀ (i : Nat) (u : Value) (d : PyData), us[i]? = some u → ds[i]? = some d → Shn P w h u d) →
    ∃ bs, ReadAtMost h (PyData.depthAll ds) bs ∧ ReprAllK P w bs h (PyData.depthAll ds) us (PyData.shownAll ds)
  | [], [], _, _ => ⟨[], (fun _ h => nomatch h), .nil⟩
  | [], _ :: _, e, _ => by cases e
  | _ :: _, [], e, _ => by cases e
  | u :: us, d :: ds, e, f => by
    obtain ⟨b1, hb1, k1⟩ := f 0 u d rfl rfl
    obtain ⟨b2, hb2, k2⟩ := allK (us := us) (ds := ds) (Nat.succ.inj e) fun i u d h1 h2 => f (i + 1) u d h1 h2
    refine ⟨b1 ++ b2, fun b hm => ?_, .cons ((k1.more fun b hb => List.mem_append_left _ hb).level_le (Nat.le_max_left _ _)) (k2.more_le (fun b hb => List.mem_append_right _ hb) (Nat.le_max_right _ _))⟩
    rcases List.mem_append.mp hm with hm | hm
    · obtain ⟨d', as', r', hd'⟩ := hb1 b hm
      exact ⟨d', as', r', Nat.le_trans hd' (Nat.le_max_left _ _)⟩
    · obtain ⟨d', as', r', hd'⟩ := hb2 b hm
      exact ⟨d', as', r', Nat.le_trans hd' (Nat.le_max_right _ _)⟩
theorem Dd.reads (I : Inv X pins σ H s) {n : Nat} {x : V} {d : PyData} (h : Dd H n x d) : ∀ u, RelV x u → ∃ as, Reads s.heap u d as := by
  induction h with
  | non => intro u r; cases r; exact ⟨_, .none⟩
  | bl b => intro u r; cases r; exact ⟨_, .bool b⟩
  | int i h => intro u r; obtain ⟨t, rfl⟩ := r; exact ⟨_, .int i t⟩
  | str z h => intro u r; obtain ⟨t, rfl⟩ := r; exact ⟨_, .str z t⟩
  | @lst n a xs ds h l e f ih =>
    intro u r
    cases r
    obtain ⟨its, rv, ⟨o, m, ho, hc, _, hd⟩, _⟩ := I.list (SqL.of h)
    have hl := rv.length
    obtain ⟨as, hr⟩ := readsAll_at (h := s.heap) (us := its) (ds := ds) (by omega) fun i u d h1 h2 => by
      have lt : i < xs.length := by have := (List.getElem?_eq_some_iff.mp h1).1; omega
      obtain ⟨u', hu, ru⟩ := rv.get (List.getElem?_eq_getElem lt)
      rw [h1] at hu
      cases hu
      exact ih i _ d (List.getElem?_eq_getElem lt) h2 u ru
    exact ⟨_, Reads.list ho hc hd (by simpa using hr)⟩
  | @tup n a xs ds h l e f ih =>
    intro u r
    cases r
    obtain ⟨its, rv, ⟨o, ho, hc, m, hd⟩, _⟩ := I.tuple (SqT.of h)
    have hl := rv.length
    obtain ⟨as, hr⟩ := readsAll_at (h := s.heap) (us := its) (ds := ds) (by omega) fun i u d h1 h2 => by
      have lt : i < xs.length := by have := (List.getElem?_eq_some_iff.mp h1).1; omega
      obtain ⟨u', hu, ru⟩ := rv.get (List.getElem?_eq_getElem lt)
      rw [h1] at hu
      cases hu
      exact ih i _ d (List.getElem?_eq_getElem lt) h2 u ru
    exact ⟨_, Reads.tuple ho hc hd (by simpa using hr)⟩
  | @dct n a z v dv h hz hv ih =>
    intro u r
    cases r
    obtain ⟨_, _, vs, rk, hd⟩ := dk_of I.hok h
    cases rk with
    | cons hp ht =>
      rename_i kv vs
      cases ht
      obtain ⟨k, w⟩ := kv
      obtain ⟨e1, e2⟩ := hp
      have e1 : (Sum.inr z : Key) = k := e1
      subst e1
      obtain ⟨as, r1⟩ := ih w e2
      exact ⟨a :: (as ++ []), PyProof.V.reads_dictOf (enc := encK) (fun k key e => mix_reads e) hd (.cons r1 .nil)⟩
/-- the parts of a thing that is shown -/
inductive Part (P : Program) (w : World) (h : Heap) : Value → PyData → Prop where
  | non : Part P w h .none .none
  | bl (b : Bool) : Part P w h (.bool b) (.bool b)
  | int (i : Int) (t : Tok) : Part P w h (.int i t) (.int i)
  | str (x : Str) (t : Tok) : Part P w h (.str x t) (.str x)
  | lst {a : Addr} {o : Obj} {vs : Array Value} {m : Nat} {xs : List PyData} (h1 : h.get? a = some o) (h2 : o.cls = .type "list") (h3 : o.data = .seq vs m) (l : vs.toList.length = xs.length) (k : ∀ (i : Nat) (u : Value) (d : PyData), vs.toList[i]? = some u → xs[i]? = some d → Shn P w h u d) : Part P w h (.ref a) (.list xs)
  | tup {a : Addr} {o : Obj} {vs : Array Value} {m : Nat} {xs : List PyData} (h1 : h.get? a = some o) (h2 : o.cls = .type "tuple") (h3 : o.data = .seq vs m) (l : vs.toList.length = xs.length) (k : ∀ (i : Nat) (u : Value) (d : PyData), vs.toList[i]? = some u → xs[i]? = some d → Shn P w h u d) : Part P w h (.ref a) (.tuple xs)
  | dct {a : Addr} {o : Obj} {es : Array DictEntry} {m : Nat} {kvs : List (PyData × PyData)} (h1 : h.get? a = some o) (h2 : o.cls = .type "dict") (h3 : o.data = .dict es m) (sy : (a == sysModules) = false) (l1 : (es.toList.map (·.key)).length = kvs.length) (l2 : (es.toList.map (·.val)).length = kvs.length)
      (k1 : ∀ (i : Nat) (u : Value) (d : PyData), (es.toList.map (·.key))[i]? = some u → (kvs.map (·.1))[i]? = some d → Shn P w h u d) (k2 : ∀ (i : Nat) (u : Value) (d : PyData), (es.toList.map (·.val))[i]? = some u → (kvs.map (·.2))[i]? = some d → Shn P w h u d) : Part P w h (.ref a) (.dict kvs)
end
end Kx

set_option maxHeartbeats 4000000
namespace Kx
open PySem PySem.Spec PyProof.Rows L2
theorem Part.shn {P : Program} {w : World} {h : Heap} {u : Value} {d : PyData} {as : List Addr} (p : Part P w h u d) (r : Reads h u d as) (hs : d.showable = true) (hz : d.shown.length ≤ sizeLine) : Shn P w h u d := by
  cases p with
  | non => exact ⟨[], (fun _ h => nomatch h), by simp only [PyData.shown]; exact .of_is ReprIs.none _ _ _⟩
  | bl b => exact ⟨[], (fun _ h => nomatch h), by simp only [PyData.shown]; exact .of_is (ReprIs.bool b) _ _ _⟩
  | int i t => exact ⟨[], (fun _ h => nomatch h), by simp only [PyData.shown]; exact .of_is (ReprIs.int t (by simpa [PyData.showable] using hs)) _ _ _⟩
  | str x t => exact ⟨[], (fun _ h => nomatch h), by simp only [PyData.shown]; exact .of_is (ReprIs.str x t (by simpa only [PyData.shown] using hz)) _ _ _⟩
  | @lst a o vs m xs h1 h2 h3 l k =>
    obtain ⟨bs, hb, hk⟩ := allK l k
    have hna : a ∉ bs := not_mem_of_deeper r (by simp only [PyData.depth]; omega) hb
    refine ⟨a :: bs, ReadAtMost.cons r (by simp only [PyData.depth]; omega) hb, ?_⟩
    simp only [PyData.depth, PyData.shown]
    obtain ⟨vl⟩ := vs
    cases vl with
    | nil =>
      cases xs with
      | nil => simp only [PyData.shownAll, listText_nil]; exact ReprK.listEmpty h1 h2 h3
      | cons x xs => cases l
    | cons x vl => exact ReprK.list h1 h2 h3 hna (by simpa using hk.length_eq) (fun i y e => hk.item i y (by simpa using e))
  | @tup a o vs m xs h1 h2 h3 l k =>
    obtain ⟨bs, hb, hk⟩ := allK l k
    have hna : a ∉ bs := not_mem_of_deeper r (by simp only [PyData.depth]; omega) hb
    refine ⟨a :: bs, ReadAtMost.cons r (by simp only [PyData.depth]; omega) hb, ?_⟩
    simp only [PyData.depth, PyData.shown]
    exact ReprK.tuple h1 h2 h3 hna hk
  | @dct a o es m kvs h1 h2 h3 sy l1 l2 k1 k2 =>
    obtain ⟨b1, hb1, q1⟩ := allK (ds := kvs.map (·.1)) (by simpa using l1) k1
    obtain ⟨b2, hb2, q2⟩ := allK (ds := kvs.map (·.2)) (by simpa using l2) k2
    have hb : ReadAtMost h (PyData.depthKv kvs) (b1 ++ b2) := (hb1.mono (PyData.depthAll_keys_le kvs)).append (hb2.mono (PyData.depthAll_vals_le kvs))
    have hna : a ∉ b1 ++ b2 := not_mem_of_deeper r (by simp only [PyData.depth]; omega) hb
    refine ⟨a :: (b1 ++ b2), ReadAtMost.cons r (by simp only [PyData.depth]; omega) hb, ?_⟩
    simp only [PyData.depth, PyData.shown, PyData.shownKv_eq]
    exact ReprK.dict h1 h2 h3 sy hna (ReprEntriesK.of_two es.toList _ _ (q1.more_le (fun b hb => List.mem_append_left _ hb) (PyData.depthAll_keys_le kvs)) (q2.more_le (fun b hb => List.mem_append_right _ hb) (PyData.depthAll_vals_le kvs)))
section
variable {X : Cx} {pins : List (Addr × Obj)} {σ : L2.St} {H : Hp} {s : Shared}
theorem Dd.part (I : Inv X pins σ H s) {n : Nat} {x : V} {d : PyData} (h : Dd H n x d) : n ≤ 4 → ∀ u, RelV x u → Part X.prog X.w s.heap u d := by
  induction h with
  | non => intro _ u r; cases r; exact .non
  | bl b => intro _ u r; cases r; exact .bl b
  | int i h => intro _ u r; obtain ⟨t, rfl⟩ := r; exact .int i t
  | str z h => intro _ u r; obtain ⟨t, rfl⟩ := r; exact .str z t
  | @lst n a xs ds h l e f ih =>
    intro hn u r
    cases r
    obtain ⟨its, rv, ⟨o, m, ho, hc, _, hd⟩, _⟩ := I.list (SqL.of h)
    have hl := rv.length
    refine .lst ho hc hd (by simp; omega) fun i u d h1 h2 => ?_
    have h1 : its[i]? = some u := by simpa using h1
    have lt : i < xs.length := by have := (List.getElem?_eq_some_iff.mp h1).1; omega
    obtain ⟨u', hu, ru⟩ := rv.get (List.getElem?_eq_getElem lt)
    rw [h1] at hu
    cases hu
    have g := f i _ d (List.getElem?_eq_getElem lt) h2
    obtain ⟨as, rd⟩ := g.reads I u ru
    exact (ih i _ d (List.getElem?_eq_getElem lt) h2 (by omega) u ru).shn rd g.sm.2.1 (g.sm.fits (by omega))
  | @tup n a xs ds h l e f ih =>
    intro hn u r
    cases r
    obtain ⟨its, rv, ⟨o, ho, hc, m, hd⟩, _⟩ := I.tuple (SqT.of h)
    have hl := rv.length
    refine .tup ho hc hd (by simp; omega) fun i u d h1 h2 => ?_
    have h1 : its[i]? = some u := by simpa using h1
    have lt : i < xs.length := by have := (List.getElem?_eq_some_iff.mp h1).1; omega
    obtain ⟨u', hu, ru⟩ := rv.get (List.getElem?_eq_getElem lt)
    rw [h1] at hu
    cases hu
    have g := f i _ d (List.getElem?_eq_getElem lt) h2
    obtain ⟨as, rd⟩ := g.reads I u ru
    exact (ih i _ d (List.getElem?_eq_getElem lt) h2 (by omega) u ru).shn rd g.sm.2.1 (g.sm.fits (by omega))
  | @dct n a z v dv h hz hv ih =>
    intro hn u r
    cases r
    obtain ⟨_, lo, vs, rk, hd⟩ := dk_of I.hok h
    cases rk with
    | cons hp ht =>
      rename_i kv vs
      cases ht
      obtain ⟨k, w⟩ := kv
      obtain ⟨e1, e2⟩ := hp
      have e1 : (Sum.inr z : Key) = k := e1
      subst e1
      obtain ⟨o, es, ep, ho, hx, hdat, _, hps, _⟩ := hd
      obtain ⟨as, rd⟩ := hv.reads I w e2
      have sv : Shn X.prog X.w s.heap w dv := (ih (by omega) w e2).shn rd hv.sm.2.1 (hv.sm.fits (by omega))
      obtain ⟨el⟩ := es
      have hps : Pairs (mixKind X.prog X.w) el [(Sum.inr z, w)] := hps
      cases hps with
      | @cons e _ _ _ hk hvv hr =>
        cases hr
        have key : keyIs (Sum.inr z) e.key = true := hk
        have sk : Shn X.prog X.w s.heap e.key (.str z) := by
          rcases keyIs_shape key with ⟨i, t, q1, q2⟩ | ⟨y, t, q1, q2⟩
          · cases q1
          · cases q1
            rw [q2]
            exact (Part.str z t).shn (.str z t) rfl ((str_sm (n := 0) hz).fits (by decide))
        have hv1 : e.val = w := hvv
        refine .dct ho hx.1 hdat lo rfl rfl (fun i u d g1 g2 => ?_) (fun i u d g1 g2 => ?_)
        · cases i with
          | zero => cases g1; cases g2; exact sk
          | succ i => cases g2
        · cases i with
          | zero => cases g1; cases g2; show Shn X.prog X.w s.heap e.val dv; rw [hv1]; exact sv
          | succ i => cases g2
end
section
variable {X : Cx}
def rReprD : List V → Hp → VK → Prop := fun xs H Q => ∃ (x : V) (n : Nat) (d : PyData), xs = [x] ∧ Dd H n x d ∧ n ≤ 4 ∧ Q (.str d.shown) H
theorem call_reprD (hg : X.A.guards = some []) (hu : X.A.units + 64 < cLine) : CallR X (.builtin "repr") rReprD := by
  intro pins s σ H xs us Q I r h
  obtain ⟨x, n, d, rfl, hd, hn, q⟩ := h
  obtain ⟨u, rfl, rx⟩ := vals1 r
  have sm := hd.sm
  have fit := sm.fits hn
  obtain ⟨as, rd⟩ := hd.reads I u rx
  have pt := hd.part I hn u rx
  have dp := sm.1
  have fin : ∀ {v : Str} (t : Tok) (h' : Heap) (tk : Nat), v = d.shown → (∀ b o, s.heap.get? b = some o → h'.get? b = some o) → EP X pins σ Q (.str v t) { s with heap := h', toks := tk } := fun t h' tk e kp => by
    subst e
    exact ⟨.str d.shown, H, I.kept kp, ⟨t, rfl⟩, q⟩
  cases pt with
  | non => exact PySem.P.repr_of_none (fin _ _ _ rfl fun _ _ e => e)
  | bl b => exact PySem.P.repr_of_bool (fin _ _ _ rfl fun _ _ e => e)
  | int i t => exact PySem.P.repr_of_int (of_decide_eq_true sm.2.1) (fin _ _ _ rfl fun _ _ e => e)
  | str z t => exact PySem.P.repr_of_str (fin _ _ _ rfl fun _ _ e => e) fit
  | @lst a o vs m xs h1 h2 h3 l k =>
    obtain ⟨bs, hb, hk⟩ := allK l k
    have hna : a ∉ bs := not_mem_of_deeper rd (by simp only [PyData.depth]; omega) hb
    have dp : PyData.depthAll xs + 1 ≤ n := dp
    refine call_repr_slot (by omega) ⟨o, h1, h2⟩ F.slot_list_repr.toG ?_
    obtain ⟨vl⟩ := vs
    cases vl with
    | nil =>
      cases xs with
      | nil => exact call_list_repr_empty ⟨o, h1, h2⟩ h1 h3 ⟨_, _, rfl, fin _ _ _ (by simp only [PyData.shown, PyData.shownAll, listText_nil]) fun _ _ e => e⟩
      | cons x xs => cases l
    | cons x vl => exact call_list_reprK h1 h2 h3 hna (by simpa using hk.length_eq) (fun i y e => hk.item i y (by simpa using e)) hg (fun b _ => Clear.nil b) (by show X.A.units + 1 + _ < cLine; omega) (fun _ _ e => e) (fun h' u tk kp => ⟨_, _, rfl, fin _ _ _ (by simp only [PyData.shown]) kp⟩) (by simpa only [PyData.shown] using fit)
  | @tup a o vs m xs h1 h2 h3 l k =>
    obtain ⟨bs, hb, hk⟩ := allK l k
    have hna : a ∉ bs := not_mem_of_deeper rd (by simp only [PyData.depth]; omega) hb
    have dp : PyData.depthAll xs + 1 ≤ n := dp
    exact call_repr_slot (by omega) ⟨o, h1, h2⟩ F.slot_tuple_repr (call_tuple_reprK h1 h2 h3 hna hk hg (fun b _ => Clear.nil b) (by show X.A.units + 1 + _ < cLine; omega) (fun _ _ e => e) (fun h' u tk kp => ⟨_, _, rfl, fin _ _ _ (by simp only [PyData.shown]) kp⟩) (by simpa only [PyData.shown] using fit))
  | @dct a o es m kvs h1 h2 h3 sy l1 l2 k1 k2 =>
    obtain ⟨b1, hb1, q1⟩ := allK (ds := kvs.map (·.1)) (by simpa using l1) k1
    obtain ⟨b2, hb2, q2⟩ := allK (ds := kvs.map (·.2)) (by simpa using l2) k2
    have hb : ReadAtMost s.heap (PyData.depthKv kvs) (b1 ++ b2) := (hb1.mono (PyData.depthAll_keys_le kvs)).append (hb2.mono (PyData.depthAll_vals_le kvs))
    have hna : a ∉ b1 ++ b2 := not_mem_of_deeper rd (by simp only [PyData.depth]; omega) hb
    have dp : PyData.depthKv kvs + 1 ≤ n := dp
    exact call_repr_slot (by omega) ⟨o, h1, h2⟩ F.slot_dict_repr (call_dict_reprK h1 h2 h3 sy hna (ReprEntriesK.of_two es.toList _ _ (q1.more_le (fun b hb => List.mem_append_left _ hb) (PyData.depthAll_keys_le kvs)) (q2.more_le (fun b hb => List.mem_append_right _ hb) (PyData.depthAll_vals_le kvs))) hg (fun b _ => Clear.nil b) (by show X.A.units + 1 + _ < cLine; omega) (fun _ _ e => e) (fun h' u tk kp => ⟨_, _, rfl, fin _ _ _ (by simp only [PyData.shown, PyData.shownKv_eq]) kp⟩) (by rw [← PyData.shownKv_eq]; simpa only [PyData.shown] using fit))
end
end Kx

set_option maxHeartbeats 4000000
namespace Kx
open PySem L2
/-- the heap but for the hand -/
def wo (p : Addr) (H : Hp) : Hp := fun b => if b = p then none else H b
theorem wo_same {H : Hp} {p : Addr} : Same (wo p H) H := fun b o e => by
  unfold wo at e
  by_cases h : b = p
  · rw [if_pos h] at e; cases e
  · rw [if_neg h] at e; exact e
theorem wo_ne {H : Hp} {p b : Addr} (h : b ≠ p) : wo p H b = H b := if_neg h
theorem wo_keep {H H' : Hp} {p : Addr} (k : Keep H H' p) : Same (wo p H) (wo p H') := fun b o e => by
  unfold wo at e ⊢
  by_cases h : b = p
  · rw [if_pos h] at e; cases e
  · rw [if_neg h] at e ⊢; exact k b o e h
theorem wo_at {H : Hp} {p b : Addr} {o : HO} (h : H b = some o) (n : b ≠ p) : wo p H b = some o := by rw [wo_ne n]; exact h
theorem wo_mono {H H' : Hp} {p : Addr} (s : Same H H') : Same (wo p H) (wo p H') := wo_keep fun b o e _ => s b o e
/-- which row it is -/
theorem Dd.row {H : Hp} {n : Nat} {y : V} {d : PyData} (h : Dd H n y d) : ∃ r, RowIs H y r := by
  have one : ∀ {m : Nat} {xs : List V} {ds : List PyData}, xs.length = ds.length → (∀ (i : Nat) (x : V) (d : PyData), xs[i]? = some x → ds[i]? = some d → Dd H m x d) → (∃ a b t u, xs = [a, b] ∧ Thing H a t ∧ Thing H b u) ∨ xs.length ≠ 2 := fun {m xs ds} e f => by
    match xs, ds, e with
    | [], _, _ => exact .inr (by simp)
    | [_], _, _ => exact .inr (by simp)
    | _ :: _ :: _ :: _, _, _ => exact .inr (by simp)
    | [a, b], [da, db], _ =>
      obtain ⟨t, ht⟩ := (f 0 a da rfl rfl).thing
      obtain ⟨u, hu⟩ := (f 1 b db rfl rfl).thing
      exact .inl ⟨a, b, t, u, rfl, ht, hu⟩
    | [_, _], [], e => cases e
    | [_, _], [_], e => cases e
    | [_, _], _ :: _ :: _ :: _, e => cases e
  cases h with
  | non => exact ⟨_, .oth .non rfl⟩
  | bl b => exact ⟨_, .oth (.bl b) rfl⟩
  | int i h => exact ⟨_, .oth (.int i) rfl⟩
  | str z h => exact ⟨_, .oth (.str z) rfl⟩
  | lst h l e f =>
    rcases one e f with ⟨a, b, t, u, rfl, ht, hu⟩ | q
    · exact ⟨_, .lst h ht hu⟩
    · exact ⟨_, .lstN h q⟩
  | tup h l e f =>
    rcases one e f with ⟨a, b, t, u, rfl, ht, hu⟩ | q
    · exact ⟨_, .tup h ht hu⟩
    · exact ⟨_, .tupN h q⟩
  | dct h hz hv => exact ⟨_, .oth (.dct _ _ h) rfl⟩
theorem allR_of {H : Hp} {m : Nat} : ∀ {xs : List V} {ds : List PyData}, xs.length = ds.length → (∀ (i : Nat) (x : V) (d : PyData), xs[i]? = some x → ds[i]? = some d → Dd H m x d) → ∃ rs, AllR H xs rs
  | [], _, _, _ => ⟨[], rfl, fun i y r e => by cases e⟩
  | x :: xs, [], e, _ => by cases e
  | x :: xs, d :: ds, e, f => by
    obtain ⟨r, hr⟩ := (f 0 x d rfl rfl).row
    obtain ⟨rs, h1, h2⟩ := allR_of (xs := xs) (ds := ds) (Nat.succ.inj e) fun i x d e1 e2 => f (i + 1) x d e1 e2
    refine ⟨r :: rs, congrArg Nat.succ h1, fun i y q e1 e2 => ?_⟩
    cases i with
    | zero => cases e1; cases e2; exact hr
    | succ i => exact h2 i y q e1 e2
theorem Dd.rows {H : Hp} {n : Nat} {y : V} {d : PyData} (h : Dd H n y d) : ∃ r, RowsIs H y r := by
  cases h with
  | non => exact ⟨_, .oth .non rfl⟩
  | bl b => exact ⟨_, .oth (.bl b) rfl⟩
  | int i h => exact ⟨_, .oth (.int i) rfl⟩
  | str z h => exact ⟨_, .oth (.str z) rfl⟩
  | lst h l e f => obtain ⟨rs, q⟩ := allR_of e f; exact ⟨_, .lst h q (by omega)⟩
  | tup h l e f => obtain ⟨rs, q⟩ := allR_of e f; exact ⟨_, .tup h q (by omega)⟩
  | dct h hz hv => exact ⟨_, .oth (.dct _ _ h) rfl⟩
theorem things_of {H : Hp} {m : Nat} {xs : List V} {ds : List PyData} (e : xs.length = ds.length) (f : ∀ (i : Nat) (x : V) (d : PyData), xs[i]? = some x → ds[i]? = some d → Dd H m x d) : ∀ x ∈ xs, ∃ n, Thing H x n := fun x hx => by
  obtain ⟨i, hi⟩ := List.mem_iff_getElem?.mp hx
  have lt : i < ds.length := by rw [← e]; exact (List.getElem?_eq_some_iff.mp hi).1
  exact (f i x _ hi (List.getElem?_eq_getElem lt)).thing
theorem Dd.deed {H : Hp} {n : Nat} {y : V} {d : PyData} (h : Dd H n y d) : ∃ r, DeedIs H y r := by
  cases h with
  | non => exact ⟨_, .oth .non rfl⟩
  | bl b => exact ⟨_, .oth (.bl b) rfl⟩
  | int i h => exact ⟨_, .oth (.int i) rfl⟩
  | str z h => exact ⟨_, .oth (.str z) rfl⟩
  | lst h l e f => exact ⟨_, .lst h (things_of e f) (by omega)⟩
  | tup h l e f => exact ⟨_, .tup h (things_of e f) (by omega)⟩
  | dct h hz hv => exact ⟨_, .oth (.dct _ _ h) rfl⟩
theorem inV_strs (z : Str) : ∀ ys : List Str, inV (.str z) (ys.map V.str) = decide (z ∈ ys)
  | [] => rfl
  | y :: ys => by
    have ih := inV_strs z ys
    show (eqV (.str y) (.str z) || inV (.str z) (ys.map V.str)) = _
    rw [ih]
    by_cases e : z = y
    · subst e
      simp [eqV]
    · have e' : ¬ y = z := fun q => e q.symm
      simp [eqV, e, e']
end Kx

set_option maxHeartbeats 4000000
namespace Kx
open PySem L2
/-- x is the pair q -/
def PairIs (H : Hp) (x : V) (q : Str × Int) : Prop := ∃ t, x = .ref t ∧ (H t = some (.lst [.str q.1, .int q.2]) ∨ H t = some (.tup [.str q.1, .int q.2]))
theorem PairIs.keep {H H' : Hp} {x : V} {q : Str × Int} (h : PairIs H x q) (s : Same H H') : PairIs H' x q := by
  obtain ⟨t, e, h⟩ := h
  exact ⟨t, e, h.imp (s _ _) (s _ _)⟩
/-- xs are the pairs ks -/
def ItemsAt (H : Hp) (xs : List V) (ks : List (Str × Int)) : Prop := xs.length = ks.length ∧ ∀ (i : Nat) (x : V) (q : Str × Int), xs[i]? = some x → ks[i]? = some q → PairIs H x q
theorem ItemsAt.keep {H H' : Hp} {xs : List V} {ks : List (Str × Int)} (h : ItemsAt H xs ks) (s : Same H H') : ItemsAt H' xs ks := ⟨h.1, fun i x q e1 e2 => (h.2 i x q e1 e2).keep s⟩
theorem ItemsAt.add {H : Hp} {xs : List V} {ks : List (Str × Int)} {x : V} {q : Str × Int} (h : ItemsAt H xs ks) (hx : PairIs H x q) : ItemsAt H (xs ++ [x]) (ks ++ [q]) := by
  refine ⟨by simp [h.1], fun i y r e1 e2 => ?_⟩
  by_cases lt : i < xs.length
  · rw [List.getElem?_append_left lt] at e1
    rw [List.getElem?_append_left (by rw [← h.1]; exact lt)] at e2
    exact h.2 i y r e1 e2
  · have e : i = xs.length := by
      have := (List.getElem?_eq_some_iff.mp e1).1
      simp at this
      omega
    subst e
    rw [List.getElem?_append_right (by omega), Nat.sub_self] at e1
    rw [h.1, List.getElem?_append_right (by omega), Nat.sub_self] at e2
    cases e1
    cases e2
    exact hx
def GoodL (H : Hp) (b : Addr) (ks : List (Str × Int)) : Prop := ∃ xs, H b = some (.lst xs) ∧ ItemsAt H xs ks
theorem GoodL.keep {H H' : Hp} {b : Addr} {ks : List (Str × Int)} (h : GoodL H b ks) (s : Same H H') : GoodL H' b ks := by
  obtain ⟨xs, h1, h2⟩ := h
  exact ⟨xs, s _ _ h1, h2.keep s⟩
structure GoodK (ks : List (Str × Int)) : Prop where
  lo : 1 ≤ ks.length
  hi : ks.length ≤ 6
  each : ∀ q ∈ ks, isLab q.1 = true ∧ ¬ q.1 = Str.ofString "year" ∧ 0 ≤ q.2 ∧ q.2 ≤ 2
  nd : (ks.map (·.1)).Nodup
def lastOf (z : Str) : Option Nat := z.cps.toList.getLast?
theorem abcdef_at : ∀ n : Fin 6, (Str.ofString "abcdef").cps.toList[n.1]? = some (97 + n.1) := by decide +kernel
theorem abcdef_ix {i : Nat} (h : i < 6) : atI (Str.ofString "abcdef").cps.toList ((0 : Int) + i) = some (97 + i) := by
  rw [Int.zero_add]
  exact atI_nat (abcdef_at ⟨i, h⟩)
theorem lab_of {z : Str} (h1 : 1 ≤ z.length) (h2 : z.length ≤ 6) (h3 : Low z) : isLab z = true := by
  unfold isLab
  rw [decide_eq_true h1, decide_eq_true h2, Bool.true_and, Bool.true_and]
  refine List.all_eq_true.mpr fun c hc => ?_
  have := h3 c hc
  unfold isLow
  simp only [Bool.and_eq_true, decide_eq_true_eq]
  omega
theorem last_app (z : Str) (n : Nat) : lastOf (z ++ ⟨#[n]⟩) = some n := by
  unfold lastOf
  rw [cps_app]
  simp
theorem last_year : lastOf (Str.ofString "year") = some 114 := by decide +kernel
theorem nd_last : ∀ {ks : List (Str × Int)} {m : Nat}, (∀ (i : Nat) (q : Str × Int), ks[i]? = some q → lastOf q.1 = some (m + i)) → (ks.map (·.1)).Nodup
  | [], _, _ => List.nodup_nil
  | q :: ks, m, h => by
    rw [List.map_cons, List.nodup_cons]
    refine ⟨fun hm => ?_, nd_last (m := m + 1) fun i r e => by rw [h (i + 1) r e]; congr 1; omega⟩
    obtain ⟨r, hr, e⟩ := List.mem_map.mp hm
    obtain ⟨i, hi⟩ := List.mem_iff_getElem?.mp hr
    have e1 := h 0 q rfl
    have e2 := h (i + 1) r hi
    rw [e, e1] at e2
    have := Option.some.inj e2
    omega
def spLKinds : Sp := fun vs H Q _ => ∃ p q : Addr, vs = [.ref p] ∧ HandAt H p q ∧ ∀ (b : Addr) (ks : List (Str × Int)) (H' : Hp), GoodK ks → (∀ r ∈ ks, ¬ r.1 = Str.ofString "zzzzzz") → GoodL (wo p H') b ks → H b = none → HandAt H' p q → Keep H H' p → Q (.ref b) H'
section
variable {P : Program} {w : World} {K : PySem.W.Frag} {mg : Str → Option Value} {base : Heap}
end
end Kx


set_option maxHeartbeats 4000000
namespace Kx
open PySem L2
abbrev Dds (H : Hp) (n : Nat) (xs : List V) (ds : List PyData) : Prop := Paired (fun x d => Dd H n x d) xs ds
theorem Dds.get {H : Hp} {n : Nat} {xs : List V} {ds : List PyData} (h : Dds H n xs ds) : ∀ (i : Nat) (x : V) (d : PyData), xs[i]? = some x → ds[i]? = some d → Dd H n x d := by
  induction h with
  | nil => intro i x d e; cases e
  | cons h t ih =>
    intro i x d e1 e2
    cases i with
    | zero => cases e1; cases e2; exact h
    | succ i => exact ih i x d e1 e2
theorem Dd.lstP {H : Hp} {n : Nat} {a : Addr} {xs : List V} {ds : List PyData} (h : H a = some (.lst xs)) (l : xs.length ≤ 10) (hs : Dds H n xs ds) : Dd H (n + 1) (.ref a) (.list ds) := .lst h l (Paired.length hs) hs.get
theorem Dd.tupP {H : Hp} {n : Nat} {a : Addr} {xs : List V} {ds : List PyData} (h : H a = some (.tup xs)) (l : xs.length ≤ 10) (hs : Dds H n xs ds) : Dd H (n + 1) (.ref a) (.tuple ds) := .tup h l (Paired.length hs) hs.get
theorem Dds.of {H : Hp} {n : Nat} : ∀ {xs : List V} {ds : List PyData}, xs.length = ds.length → (∀ (i : Nat) (x : V) (d : PyData), xs[i]? = some x → ds[i]? = some d → Dd H n x d) → Dds H n xs ds
  | [], [], _, _ => .nil
  | [], _ :: _, e, _ => by cases e
  | _ :: _, [], e, _ => by cases e
  | _ :: _, _ :: _, e, f => .cons (f 0 _ _ rfl rfl) (Dds.of (Nat.succ.inj e) fun i x d e1 e2 => f (i + 1) x d e1 e2)
theorem Dds.keep {H H' : Hp} {n : Nat} {xs : List V} {ds : List PyData} (h : Dds H n xs ds) (s : Same H H') : Dds H' n xs ds := by
  induction h with
  | nil => exact .nil
  | cons h t ih => exact .cons (h.keep s) ih
theorem Dds.up {H : Hp} {n : Nat} {xs : List V} {ds : List PyData} (h : Dds H n xs ds) : Dds H (n + 1) xs ds := by
  induction h with
  | nil => exact .nil
  | cons h t ih => exact .cons h.up ih
/-- what is new since H -/
def nw (H H' : Hp) : Hp := fun a => match H a with
  | none => H' a
  | some _ => none
theorem nw_at {H H' : Hp} {a : Addr} {o : HO} (h0 : H a = none) (h : H' a = some o) : nw H H' a = some o := by
  unfold nw
  rw [h0]
  exact h
theorem nw_get {H H' : Hp} {a : Addr} {o : HO} (h : nw H H' a = some o) : H a = none ∧ H' a = some o := by
  unfold nw at h
  cases e : H a with
  | none => rw [e] at h; exact ⟨rfl, h⟩
  | some u => rw [e] at h; cases h
theorem nw_wo {H H' : Hp} {p : Addr} {o : HO} (hp : H p = some o) : Same (nw H H') (wo p H') := fun a u e => by
  obtain ⟨e0, e1⟩ := nw_get e
  exact wo_at e1 fun h => by rw [h, hp] at e0; cases e0
def spOdd2 : Sp := fun vs H Q _ => ∃ p q : Addr, vs = [.ref p] ∧ HandAt H p q ∧ ∀ (x : V) (d : PyData) (H' : Hp), Dd (nw H H') 1 x d → HandAt H' p q → Keep H H' p → Q x H'
section
variable {P : Program} {w : World} {K : PySem.W.Frag} {mg : Str → Option Value} {base : Heap}
end
end Kx


set_option maxHeartbeats 4000000
namespace Kx
open PySem PySem.Spec PySem.Calls PyProof.Rows PySem.W
section
variable {prog : Program} {w : World} {A : Around} {E : Value → Shared → Prop} {s : Shared} {K : Frag} {x D : Addr} {ox : Obj}
theorem findObj_dataO {C : Addr} {od : Option Obj} {name : Str} {a g : Value} (hc : (clsIn K C).isSome = true) (ha : findIn K (.ref C) name = some (some a)) (hg : specialIn K a "__get__" = some (some g)) (ht : takesIn K a = some true) : findObj K C od name = some (.bind g a) := by
  obtain ⟨cd, hc⟩ := Option.isSome_iff_exists.mp hc
  unfold findObj
  rw [hc, Option.bind_some, ha, Option.bind_some]
  simp [hg, ht]
theorem kin_classO {od : Option Obj} {Q : Option Value → Shared → Prop} (hga : findIn K (.ref D) "__getattribute__" = some (some (.builtin "BaseException.__getattribute__"))) (hgt : findIn K (.ref D) "__getattr__" = some none) (hsub : subIn K (.ref D) (.type "BaseException") = some true)
    (hdct : hasDictIn K D = true) (ha : findIn K (.ref D) "__class__" = some (some (.builtin "object.__class__")))
    (hn : specialIn K (.builtin "object.__class__") "__get__" = some (some (.builtin "getset_descriptor.__get__"))) (htk : takesIn K (.builtin "object.__class__") = some true) (hm : mroIn K D (.type "object") = some true)
    (X : K.In s.heap) (I : InstAt s.heap x ox D od) (h : Q (some (.ref D)) { s with toks := s.toks + 1 }) : wpAny (model prog w) A (getAttr? (.ref x) "__class__") Q E s := by
  have hf : findObj K D od "__class__" = some (.bind (.builtin "getset_descriptor.__get__") (.builtin "object.__class__")) := findObj_dataO (by obtain ⟨cd, hc, _⟩ := any_some hdct; rw [hc]; rfl) ha hn htk
  obtain ⟨hp, g, d, t, os⟩ := s
  have L0 := I.type (M := model prog w)
  have L1 := looks_findIn (M := model prog w) X hga
  have L2 := looks_findIn (M := model prog w) X hgt
  have L3 := looks_find (M := model prog w) X I hf
  have sub : Looks (model prog w) hp (isInstance (.ref x) (.type "BaseException")) true := L0.andThen (looks_subIn X hsub)
  have hx0 : (false && onTheHeap (Value.builtin "BaseException.__getattribute__")) = false := rfl
  have hx2 : (Value.builtin "BaseException.__getattribute__" == Value.builtin "object.__getattribute__") = false := by decide +kernel
  have hx1 : (onTheHeap (Value.ref D) && Value.builtin "BaseException.__getattribute__" == Value.builtin "object.__getattribute__") = false := by rw [hx2]; rfl
  unfold getAttr? getAttrBy? getAttrBy
  refine wpAny_bind (wpAny_mkText (wpAny_bind (wpAny_attempt (wpAny_holding (wpAny_bind (L0.at (wpAny_bind (L1.at ?_))))))))
  show wpAny _ _ (if (onTheHeap (Value.ref D) && Value.builtin "BaseException.__getattribute__" == Value.builtin "object.__getattribute__") = true then _ else _) _ _ _
  rw [hx1, if_neg Bool.false_ne_true]
  unfold getAttrByItsOwn hookBefore
  refine wpAny_bind ?_
  rw [if_pos (show onTheHeap (Value.ref D) = true from rfl)]
  refine L2.at ?_
  refine wpAny_bind (wpAny_attempt (wpAny_holding ?_))
  unfold callGetattribute
  rw [hx0, if_neg Bool.false_ne_true]
  unfold boundAndCalled
  rw [PySem.F.excAttr_ValueError.ga.bind (.ref x)]
  refine wpAny_bind (wpAny_pure ?_)
  show wpAny _ _ (call (.builtin "BaseException.__getattribute__") [.ref x, .str "__class__" t]) _ _ _
  refine wpAny_call (codeAny_call_builtin PySem.F.excAttr_ValueError.ga.plain PySem.F.entry_bexc_ga ?_)
  refine @check_slot (model prog w) _ _ ⟨hp, g, d, t + 1, os⟩ "BaseException.__getattribute__" "BaseException" "__getattribute__" (.ref x) [.str "__class__" t] [] _ (by decide +kernel) (by decide +kernel) sub (PySem.F.args_bexc_ga (.ref x) (.str "__class__" t)) ?_
  unfold Builtin.«object.__getattribute__»
  refine wpAny_bind (wpAny_of_eq (a := ((Value.ref x : Value), [Value.str "__class__" t])) (by first | rfl | (simp only [slotArgs]; rfl)) ?_)
  refine wpAny_bind (wpAny_pure (wpAny_bind (L0.at (wpAny_bind (L3.at ?_)))))
  show wpAny _ _ (holding [Value.builtin "object.__class__"] (call (.builtin "getset_descriptor.__get__") [.builtin "object.__class__", .ref x, .ref D]) >>= ret) _ _ _
  refine wpAny_bind (wpAny_holding (wpAny_call (class_get (s := ⟨hp, g, d, t + 1, os⟩) (ox := ox) (od := od) X I hm ?_)))
  refine wpAny_pure ?_
  show wpAny _ _ (handedOut (.ref D)) _ _ _
  rw [handedOut_of (v := .ref D) rfl]
  first
    | exact wpAny_pure (wpAny_pure h)
    | exact wpAny_pure h
    | exact wpAny_pure (wpAny_bind (wpAny_pure (wpAny_pure h)))
theorem kitx_excO {od : Option Obj} (hga : findIn K (.ref D) "__getattribute__" = some (some (.builtin "BaseException.__getattribute__"))) (hgt : findIn K (.ref D) "__getattr__" = some none) (hsub : subIn K (.ref D) (.type "BaseException") = some true) (hdct : hasDictIn K D = true) (ha : findIn K (.ref D) "__class__" = some (some (.builtin "object.__class__")))
    (hn : specialIn K (.builtin "object.__class__") "__get__" = some (some (.builtin "getset_descriptor.__get__"))) (htk : takesIn K (.builtin "object.__class__") = some true) (hm : mroIn K D (.type "object") = some true) :
    KitX K (.ref x) (.ref D) (fun h => InstAt h x ox D od) where
  ty := fun _ _ _ I => I.type
  it := fun _ _ X _ => by
    obtain ⟨cdD, hcD, _⟩ := any_some hdct
    unfold clsIn at hcD
    split at hcD
    · rename_i c' d' cd' sl' ho
      intro A' Q' E' s' k q
      unfold isType loadHead
      exact wpAny_bind (wpAny_loadPart (k _ _ (X _ _ ho)) (wpAny_pure q))
    · cases hcD
  ne := fun h tp dd its n sl X htp => by
    obtain ⟨cdD, hcD, _⟩ := any_some hdct
    refine Bool.eq_false_iff.mpr fun q => ?_
    have e : D = tp := Value.ref.inj (beq_iff_eq.mp q)
    subst e
    unfold clsIn at hcD
    split at hcD
    · rename_i c' d' cd' sl' ho
      have z := (X _ _ ho).symm.trans htp
      cases z
    · cases hcD
  ca := fun X I k => kin_classO hga hgt hsub hdct ha hn htk hm X I k
end
end Kx
namespace Kx
open PySem PySem.Spec PyProof.Rows L2
/-- isinstance(e, c), e a caught error that has fields -/
def rIsEd (K : PySem.W.Frag) (a : Addr) (cls : Value) (d : Option Addr) (D : Addr) : List V → Hp → VK → Prop := fun xs H Q => cls = .ref D ∧ (d = none ∨ ∃ (dd : Addr) (fs : List (Str × V)), d = some dd ∧ H dd = some (.xd fs)) ∧ rIsE K D a xs H Q
theorem call_isEd {X : Cx} {K : PySem.W.Frag} {a D : Addr} {oe : Obj} {cls : Value} {d : Option Addr} {pn : List (Addr × Obj)} (hK : X.K = K) (C : ExcC K D) (hz : Zc cls d oe) (hf : ∃ vs, oe.data = .fields vs) : CallR (X.suite a ((a, oe) :: pn)) (.builtin "isinstance") (rIsEd K a cls d D) := by
  subst hK
  intro pins s σ H xs us Q I r h
  obtain ⟨hcl, hd, c, cv, b, rfl, hcv, e, q⟩ := h
  subst hcl
  cases r with
  | cons rx rr =>
    cases rr with
    | cons rt rr =>
      cases rr
      cases rx
      have ec := hcv _ rt
      subst ec
      obtain ⟨hget, _⟩ := I.pin (a, oe) (List.mem_append.mpr (.inl List.mem_cons_self))
      obtain ⟨vs, hv⟩ := hf
      have J : ∃ od, PySem.W.InstAt s.heap a oe D od := by
        rcases hd with hd | ⟨dd, fs, hd, he⟩
        · subst hd
          obtain ⟨oc, od, oda, osl⟩ := oe
          obtain ⟨h1, h2⟩ := hz
          dsimp only at h1 h2 hv
          subst h1 h2 hv
          exact ⟨none, hget, rfl, rfl, trivial⟩
        · subst hd
          obtain ⟨mA, hns, hr⟩ := (show ObjOk X.prog X.w H s.heap dd (.xd fs) from I.hok dd _ he)
          obtain ⟨od, ho, hl⟩ := lookIn_ns hns
          exact ⟨some od, hget, hz.1, by unfold PySem.W.notCls; rw [hv] <;> rfl, by rw [hz.2]; exact ho⟩
      obtain ⟨od, J⟩ := J
      exact PySem.W.kia_one (kitx_excO C.hg C.hk C.hs C.hd C.ha C.hn C.ht C.hm) I.kIn J e (fun z => nomatch z) fun tk => ⟨.bl b, H, I.kept (t' := tk) fun _ _ z => z, rfl, q⟩
end Kx

set_option maxHeartbeats 4000000
namespace Kx
open PySem PySem.Spec PyProof.Rows L2
/-! two lists of whatever things: of other lengths, or with the very same things at each place -/
theorem eqV_self : ∀ x : V, flatV x = true → eqV x x = true
  | .non, _ => rfl
  | .bl b, _ => by simp [eqV]
  | .int i, _ => by simp [eqV]
  | .str z, _ => by simp [eqV]
section
variable {X : Cx}
def rNeL (K : PySem.W.Frag) : R2 := fun x y H Q => ∃ a b xs ys, x = .ref a ∧ y = .ref b ∧ SqL K H a xs ∧ SqL K H b ys ∧ ((xs.length ≠ ys.length ∧ Q (.bl true) H) ∨ (xs = ys ∧ (∀ z ∈ xs, flatV z = true ∨ ∃ c, z = .ref c) ∧ Q (.bl false) H))
theorem op_neL (hu : X.A.units + 64 < cLine) : OpR X (compareOp .NotEq) (rNeL X.K) := by
  intro pins s σ H x y v u Q I rx ry h
  obtain ⟨a, b, xs, ys, rfl, rfl, ha, hb, h⟩ := h
  obtain rfl : v = Value.ref a := rx
  obtain rfl : u = Value.ref b := ry
  obtain ⟨its, rv, pl, hz⟩ := I.list ha
  obtain ⟨ius, ru, pu, hw⟩ := I.list hb
  have l1 := rv.length
  have l2 := ru.length
  rcases h with ⟨ne, q⟩ | ⟨rfl, fl, q⟩
  · exact SeqAt.RcNeAt.lists_lengths pl.isList pu.isList (by simp only [List.size_toArray, bne_iff_ne, ne_eq]; omega) (by omega) X.prog X.w X.xe _ ⟨.bl true, H, I, rfl, q⟩
  · have e := SeqAt.RcNeAt.lists (e := fun _ => true) (A := X.A) pl.isList pu.isList (by simp only [List.size_toArray]; omega) (by omega) fun j h1 h2 => by
      have hj : j < xs.length := by simp only [List.size_toArray] at h1; omega
      obtain ⟨v1, e1, r1⟩ := rv.get (List.getElem?_eq_getElem hj)
      obtain ⟨v2, e2, r2⟩ := ru.get (List.getElem?_eq_getElem hj)
      have g1 : its.toArray[j] = v1 := by
        have := (List.getElem?_eq_some_iff.mp e1).2
        simpa using this
      have g2 : ius.toArray[j] = v2 := by
        have := (List.getElem?_eq_some_iff.mp e2).2
        simpa using this
      rw [g1, g2]
      rcases fl xs[j] (List.getElem_mem hj) with f | ⟨c, ec⟩
      · have z := eqAt_V (A := X.A.in1) (s := s) r1 r2 f f
        rw [eqV_self _ f] at z
        exact z
      · rw [ec] at r1 r2
        obtain rfl : v1 = Value.ref c := r1
        obtain rfl : v2 = Value.ref c := r2
        exact SeqAt.EqAt.same _
    refine e X.prog X.w X.xe _ ⟨.bl false, H, I, ?_, q⟩
    show Value.bool _ = Value.bool false
    simp
end
end Kx

set_option maxHeartbeats 4000000
namespace Kx
open PySem L2
def rLstOf (K : PySem.W.Frag) : List V → Hp → VK → Prop := fun xs H Q => ∃ p ys, xs = [.ref p] ∧ (SqL K H p ys ∨ SqT K H p ys) ∧ ∀ l, H l = none → Q (.ref l) (upd H l (.lst ys))
theorem call_lstK {X : Cx} {K : PySem.W.Frag} (h : X.K = K) : CallR X (.type "list") (rLstOf K) := by
  subst h
  exact call_list_of
theorem ix_seqK {X : Cx} {K : PySem.W.Frag} (h : X.K = K) : IxR X (rIx K) := by
  subst h
  exact ix_seq
def spLRows : Sp := fun vs H Q _ => ∃ p q : Addr, vs = [.ref p] ∧ HandAt H p q ∧ ∀ (b : Addr) (ds : List PyData) (H' : Hp), Dd (wo p H') 3 (.ref b) (.list ds) → HandAt H' p q → Keep H H' p → Q (.ref b) H'
/-- the heap but for the hand and one list more -/
def hid (b p : Addr) (H : Hp) : Hp := wo b (wo p H)
theorem hid_at {b p c : Addr} {H : Hp} {o : HO} (h : H c = some o) (n1 : c ≠ b) (n2 : c ≠ p) : hid b p H c = some o := by
  unfold hid
  rw [wo_ne n1, wo_ne n2]
  exact h
theorem hid_keep {b p : Addr} {H H' : Hp} (k : Keep H H' p) : Same (hid b p H) (hid b p H') := wo_mono (wo_keep k)
theorem hid_wo {b p : Addr} {H : Hp} : Same (hid b p H) (wo p H) := wo_same
theorem hid_b {b p : Addr} {H : Hp} {o : HO} : Same (hid b p H) (hid b p (upd H b o)) := fun c u e => by
  unfold hid at e ⊢
  have cb : c ≠ b := fun h => by rw [h] at e; unfold wo at e; rw [if_pos rfl] at e; cases e
  rw [wo_ne cb] at e ⊢
  have cp : c ≠ p := fun h => by rw [h] at e; unfold wo at e; rw [if_pos rfl] at e; cases e
  rw [wo_ne cp] at e ⊢
  rw [upd_ne cb]
  exact e
theorem hid_get {b p c : Addr} {H : Hp} {o : HO} (h : hid b p H c = some o) : H c = some o ∧ c ≠ b ∧ c ≠ p := by
  unfold hid at h
  have cb : c ≠ b := fun e => by rw [e] at h; unfold wo at h; rw [if_pos rfl] at h; cases h
  rw [wo_ne cb] at h
  have cp : c ≠ p := fun e => by rw [e] at h; unfold wo at h; rw [if_pos rfl] at h; cases h
  rw [wo_ne cp] at h
  exact ⟨h, cb, cp⟩
/-- where we stand: the hand, the list at b, the rest as it was -/
structure Fr (b p q : Addr) (ys : List V) (H0 Hs H : Hp) : Prop where
  hb : H b = some (.lst ys)
  bp : b ≠ p
  hp : HandAt H p q
  kp : Keep H0 H p
  sm : Same (hid b p Hs) (hid b p H)
  b0 : H0 b = none
  bq : b ≠ q
theorem Fr.new {b p q l : Addr} {ys : List V} {H0 Hs H : Hp} {o : HO} (f : Fr b p q ys H0 Hs H) (hl : H l = none) : Fr b p q ys H0 Hs (upd H l o) ∧ hid b p (upd H l o) l = some o ∧ Same (hid b p H) (hid b p (upd H l o)) := by
  have lb : l ≠ b := (ne_of_none f.hb hl).symm
  have lp : l ≠ p := f.hp.ap hl
  have l0 : H0 l = none := by
    cases e : H0 l with
    | none => rfl
    | some u => exact absurd hl (by rw [f.kp l u e lp]; exact fun z => nomatch z)
  have k : Keep H (upd H l o) p := fun c u e _ => by rw [upd_ne (ne_of_none e hl)]; exact e
  exact ⟨⟨by rw [upd_ne lb.symm]; exact f.hb, f.bp, f.hp.upd lp (f.hp.aq hl), keepUpd f.kp l0, f.sm.trans (hid_keep k), f.b0, f.bq⟩, hid_at upd_same lb lp, hid_keep k⟩
theorem Fr.draw {b p q : Addr} {ys : List V} {H0 Hs H H' : Hp} (f : Fr b p q ys H0 Hs H) (k : Keep H H' p) (h : HandAt H' p q) : Fr b p q ys H0 Hs H' ∧ Same (hid b p H) (hid b p H') :=
  ⟨⟨k b _ f.hb f.bp, f.bp, h, f.kp.trans k, f.sm.trans (hid_keep k), f.b0, f.bq⟩, hid_keep k⟩
def FineK (ks : List (Str × Int)) : Prop := ∀ r ∈ ks, Low r.1 ∧ r.1.length ≤ 6 ∧ 0 ≤ r.2 ∧ r.2 ≤ 2
theorem lab_low {z : Str} (h : isLab z = true) : Low z ∧ z.length ≤ 6 := by
  unfold isLab at h
  rw [Bool.and_eq_true, Bool.and_eq_true, decide_eq_true_eq, decide_eq_true_eq] at h
  refine ⟨fun c hc => ?_, h.2.1⟩
  have h3 := List.all_eq_true.mp h.2.2 c hc
  unfold isLow at h3
  simp only [Bool.and_eq_true, decide_eq_true_eq] at h3
  omega
theorem GoodK.fine {ks : List (Str × Int)} (g : GoodK ks) : FineK ks := fun r hr => ⟨(lab_low (g.each r hr).1).1, (lab_low (g.each r hr).1).2, (g.each r hr).2.2⟩
theorem pair_dd {H : Hp} {x : V} {r : Str × Int} (h : PairIs H x r) (l : Low r.1) (l6 : r.1.length ≤ 6) (i0 : 0 ≤ r.2) (i2 : r.2 ≤ 2) : ∃ d, Dd H 1 x d := by
  obtain ⟨t, rfl, h | h⟩ := h
  · exact ⟨_, Dd.lstP h (by show 2 ≤ 10; decide) (.cons (.str _ (fine_low l (by omega))) (.cons (.int _ (by omega)) .nil))⟩
  · exact ⟨_, Dd.tupP h (by show 2 ≤ 10; decide) (.cons (.str _ (fine_low l (by omega))) (.cons (.int _ (by omega)) .nil))⟩
theorem items_dd {H : Hp} : ∀ {xs : List V} {ks : List (Str × Int)}, ItemsAt H xs ks → FineK ks → ∃ ds, Dds H 1 xs ds
  | [], _, _, _ => ⟨[], .nil⟩
  | _ :: _, [], h, _ => by cases h.1
  | x :: xs, r :: ks, h, f => by
    obtain ⟨l, l6, i0, i2⟩ := f r (.head _)
    obtain ⟨d, hd⟩ := pair_dd (h.2 0 x r rfl rfl) l l6 i0 i2
    obtain ⟨ds, hs⟩ := items_dd (xs := xs) (ks := ks) ⟨Nat.succ.inj h.1, fun i y q e1 e2 => h.2 (i + 1) y q e1 e2⟩ fun q m => f q (.tail _ m)
    exact ⟨d :: ds, .cons hd hs⟩
theorem Dds.set {H : Hp} {n : Nat} {xs : List V} {ds : List PyData} {x : V} {d : PyData} (h : Dds H n xs ds) (hd : Dd H n x d) : ∀ j, Dds H n (xs.set j x) (ds.set j d) := by
  induction h with
  | nil => intro j; exact .nil
  | cons h t ih =>
    intro j
    cases j with
    | zero => exact .cons hd t
    | succ j => exact .cons h (ih j)
theorem Dds.mem {H : Hp} {n : Nat} {xs : List V} {ds : List PyData} (h : Dds H n xs ds) {x : V} (m : x ∈ xs) : ∃ d, Dd H n x d := by
  induction h with
  | nil => cases m
  | cons h t ih =>
    cases m with
    | head => exact ⟨_, h⟩
    | tail _ m => exact ih m
theorem hid_swap {b c p : Addr} {H : Hp} {o : HO} (hc : H c = none) : Same (hid b p H) (hid c p (upd H c o)) := fun a u e => by
  obtain ⟨e1, n1, n2⟩ := hid_get e
  have ac := ne_of_none e1 hc
  exact hid_at (by rw [upd_ne ac]; exact e1) ac n2
theorem ItemsAt.addn {H : Hp} {ks : List (Str × Int)} {x : V} {r : Str × Int} (hx : PairIs H x r) : ∀ (n : Nat) {xs : List V}, ItemsAt H xs ks → ItemsAt H (xs ++ List.replicate n x) (ks ++ List.replicate n r)
  | 0, xs, h => by simpa using h
  | n + 1, xs, h => by
    rw [List.replicate_succ', List.replicate_succ', ← List.append_assoc, ← List.append_assoc]
    exact (ItemsAt.addn hx n h).add hx
theorem flat_rep {α : Type} (x : α) : ∀ n, (List.replicate n [x]).flatten = List.replicate n x
  | 0 => rfl
  | n + 1 => by rw [List.replicate_succ, List.flatten_cons, flat_rep x n, List.replicate_succ]; rfl
theorem Fr.put {b p q c : Addr} {ys : List V} {H0 Hs H : Hp} {o : HO} (f : Fr b p q ys H0 Hs H) (n0 : H0 c = none) (ns : Hs c = none) (cb : c ≠ b) (cp : c ≠ p) (cq : c ≠ q) : Fr b p q ys H0 Hs (upd H c o) :=
  ⟨by rw [upd_ne cb.symm]; exact f.hb, f.bp, f.hp.upd cp cq, keepUpd f.kp n0, fun a u e => by
    obtain ⟨e1, n1, n2⟩ := hid_get (f.sm a u e)
    have ac : a ≠ c := fun h => by rw [h] at e; rw [(hid_get e).1] at ns; cases ns
    exact hid_at (by rw [upd_ne ac]; exact e1) n1 n2, f.b0, f.bq⟩
theorem wo_put {b p c : Addr} {H : Hp} {o : HO} : Same (wo c (hid b p H)) (wo c (hid b p (upd H c o))) := fun a u e => by
  have ac : a ≠ c := fun h => by rw [h] at e; unfold wo at e; rw [if_pos rfl] at e; cases e
  rw [wo_ne ac] at e ⊢
  obtain ⟨e1, n1, n2⟩ := hid_get e
  exact hid_at (by rw [upd_ne ac]; exact e1) n1 n2
theorem nw_hid {H H' : Hp} {b p : Addr} {o o' : HO} (hb : H b = some o) (hp : H p = some o') : Same (nw H H') (hid b p H') := fun a u e => by
  obtain ⟨e0, e1⟩ := nw_get e
  exact hid_at e1 (fun h => by rw [h, hb] at e0; cases e0) fun h => by rw [h, hp] at e0; cases e0
theorem HandAt.at_ {H : Hp} {p q : Addr} (h : HandAt H p q) : ∃ o, H p = some o := by
  obtain ⟨cs, a, b, c, h1, h2⟩ := h
  exact ⟨_, h1⟩
end Kx

set_option maxHeartbeats 4000000
namespace Kx
open PySem L2
def spLDeed : Sp := fun vs H Q _ => ∃ (b : Addr) (ks : List (Str × Int)) (y : V) (r : Option (List V)), vs = [.ref b, y] ∧ GoodL H b ks ∧ GoodK ks ∧ DeedIs H y r ∧ ∀ H', Same H H' → Q (wordV (deedWord ks r)) H'
theorem kNum_step {ks : List (Str × Int)} {i : Nat} {q : Str × Int} (nd : (ks.map (·.1)).Nodup) (e : ks[i]? = some q) (z : Str) : kNum (ks.take (i + 1)) (.str z) = if q.1 = z then some q.2 else kNum (ks.take i) (.str z) := by
  show ((ks.take (i + 1)).find? fun r => decide (r.1 = z)).map (·.2) = _
  rw [take_succ_of e, List.find?_append]
  by_cases h : q.1 = z
  · rw [if_pos h]
    have none : (ks.take i).find? (fun r => decide (r.1 = z)) = none := by
      rw [List.find?_eq_none]
      intro r hr hz
      have hz : r.1 = z := of_decide_eq_true hz
      obtain ⟨j, hj⟩ := List.mem_iff_getElem?.mp hr
      have lt : j < i := by
        have := (List.getElem?_eq_some_iff.mp hj).1
        rw [List.length_take] at this
        omega
      rw [List.getElem?_take_of_lt lt] at hj
      have a : (ks.map (·.1))[j]? = some z := by rw [List.getElem?_map, hj, ← hz]; rfl
      have b : (ks.map (·.1))[i]? = some z := by rw [List.getElem?_map, e, ← h]; rfl
      have := (List.getElem?_inj (by have := (List.getElem?_eq_some_iff.mp a).1; exact this) nd).mp (a.trans b.symm)
      omega
    rw [none, List.find?_cons_of_pos (by simpa using h)]
    rfl
  · rw [if_neg h, List.find?_cons_of_neg (by simpa using h), List.find?_nil, Option.or_none]
    rfl
theorem few_filt {xs : List V} (i : Nat) (h : xs.length ≤ 1000) : ((xs.take i).filter fun z => !labV z).length ≤ 1000 := by
  have h1 := List.length_filter_le (fun z => !labV z) (xs.take i)
  have h2 : (xs.take i).length ≤ xs.length := by
    rw [List.length_take]
    omega
  omega
theorem filt_all (xs : List V) : (xs.filter fun z => !labV z).length = 0 ↔ xs.all labV = true := by
  rw [List.length_eq_zero_iff, List.filter_eq_nil_iff, List.all_eq_true]
  constructor
  · intro h z hz
    have := h z hz
    simpa using this
  · intro h z hz
    simp [h z hz]
section
variable {P : Program} {w : World} {K : PySem.W.Frag} {mg : Str → Option Value} {base : Heap}
abbrev nLDeed : List Str := ["_law_rows", "_law_deed", "_law_many", "_law_row", "_law_person"]
end
end Kx


set_option maxHeartbeats 4000000
namespace Kx
open PySem L2
/-- a label -/
def Lb (z : Str) : Prop := isLab z = true
theorem Lb.fine {z : Str} (h : Lb z) : Fine z := ⟨(lab_ok h).1, Nat.le_trans (lab_ok h).2 (by decide)⟩
def spPersons : Sp := fun vs H Q _ => ∃ p q : Addr, vs = [.ref p] ∧ HandAt H p q ∧ ∀ (b : Addr) (ys : List Str) (H' : Hp), wo p H' b = some (.lst (ys.map V.str)) → ys ≠ [] → ys.length ≤ 6 → (∀ y ∈ ys, Lb y) → HandAt H' p q → Keep H H' p → Q (.ref b) H'
def E0p : Hp := fun _ => none
theorem hid_E0 {b p : Addr} {H : Hp} : Same (hid b p E0p) H := fun c o e => by
  have z := (hid_get e).1
  cases z
theorem cut0 (xs : List V) : cutV xs none (some 0) = [] := by
  unfold cutV
  have e1 : HT.sIx xs.length xs.length (some 0) = 0 := by simp [HT.sIx]
  rw [e1]
  simp
theorem cut_sub {xs : List V} {lo hi : Option Int} {z : V} (h : z ∈ cutV xs lo hi) : z ∈ xs := List.mem_of_mem_drop (List.mem_of_mem_take h)
section
variable {P : Program} {w : World} {K : PySem.W.Frag} {mg : Str → Option Value} {base : Heap}
abbrev nPers : List Str := ["_law_hand_here", "_law_persons_here", "_law_k", "_law_word_here", "_law_person"]
end
end Kx


set_option maxHeartbeats 4000000
namespace Kx
open PySem L2
/-- what a deed is made of: rows at b, persons at c -/
structure Mat (H : Hp) (p q b c : Addr) (ks : List (Str × Int)) (ys : List Str) : Prop where
  hp : HandAt H p q
  gl : GoodL (wo p H) b ks
  gk : GoodK ks
  hc : wo p H c = some (.lst (ys.map V.str))
  ne : ys ≠ []
  few : ys.length ≤ 6
  fine : ∀ y ∈ ys, Lb y
theorem Mat.keep {H H' : Hp} {p q b c : Addr} {ks : List (Str × Int)} {ys : List Str} (m : Mat H p q b c ks ys) (k : Keep H H' p) (hp : HandAt H' p q) : Mat H' p q b c ks ys :=
  ⟨hp, m.gl.keep (wo_keep k), m.gk, wo_keep k _ _ m.hc, m.ne, m.few, m.fine⟩
theorem wo_get {p b : Addr} {H : Hp} {o : HO} (h : wo p H b = some o) : H b = some o ∧ b ≠ p := ⟨wo_same _ _ h, fun e => by rw [e] at h; unfold wo at h; rw [if_pos rfl] at h; cases h⟩
/-- a deed of one of the kinds by the persons -/
def Made (ks : List (Str × Int)) (ys : List Str) (zs : List Str) : Prop := ∃ r ∈ ks, ∃ ps : List Str, zs = r.1 :: ps ∧ ((ps.length : Nat) : Int) = r.2 ∧ ∀ z ∈ ps, z ∈ ys
theorem Made.all {ks : List (Str × Int)} {ys zs : List Str} (m : Made ks ys zs) (g : GoodK ks) (l : ∀ y ∈ ys, Lb y) : 1 ≤ zs.length ∧ zs.length ≤ 3 ∧ ∀ z ∈ zs, Lb z := by
  obtain ⟨r, hr, ps, rfl, e, hp⟩ := m
  obtain ⟨h1, _, h2, h3⟩ := g.each r hr
  refine ⟨by simp, by simp; omega, fun z hz => ?_⟩
  rcases List.mem_cons.mp hz with e | h
  · rw [e]; exact h1
  · exact l z (hp z h)
theorem Made.due {ks : List (Str × Int)} {ys zs : List Str} (m : Made ks ys zs) (g : GoodK ks) (l : ∀ y ∈ ys, Lb y) : deedWord ks (some (zs.map V.str)) = none := by
  obtain ⟨r, hr, ps, rfl, e, hp⟩ := m
  have num : kNum ks (.str r.1) = some r.2 := by
    show (ks.find? fun q => decide (q.1 = r.1)).map (·.2) = some r.2
    have nd := g.nd
    clear g e hp
    induction ks with
    | nil => cases hr
    | cons k ks ih =>
      rw [List.map_cons, List.nodup_cons] at nd
      rcases List.mem_cons.mp hr with h | h
      · subst h
        rw [List.find?_cons_of_pos (by simp)]
        rfl
      · have ne : ¬ k.1 = r.1 := fun q => nd.1 (by rw [q]; exact List.mem_map.mpr ⟨r, h, rfl⟩)
        rw [List.find?_cons_of_neg (by simpa using ne)]
        exact ih h nd.2
  show (match kNum ks (.str r.1) with | none => some (Str.ofString "kind") | some k => if (((ps.map V.str).length : Nat) : Int) = k then (if (ps.map V.str).all labV then none else some (Str.ofString "person")) else some (Str.ofString "arity")) = none
  rw [num]
  show (if (((ps.map V.str).length : Nat) : Int) = r.2 then (if (ps.map V.str).all labV then none else some (Str.ofString "person")) else some (Str.ofString "arity")) = none
  rw [if_pos (by rw [List.length_map]; exact e), if_pos (List.all_eq_true.mpr fun v hv => by
    obtain ⟨z, hz, rfl⟩ := List.mem_map.mp hv
    exact l z (hp z hz))]
def spMade : Sp := fun vs H Q _ => ∃ (p q b c : Addr) (ks : List (Str × Int)) (ys : List Str), vs = [.ref p, .ref b, .ref c] ∧ Mat H p q b c ks ys ∧ ∀ (a : Addr) (zs : List Str) (H' : Hp), Fr a p q (zs.map V.str) H E0p H' → Made ks ys zs → Q (.ref a) H'
def spOddDeed : Sp := fun vs H Q _ => ∃ (p q b c : Addr) (ks : List (Str × Int)) (ys : List Str), vs = [.ref p, .ref b, .ref c] ∧ Mat H p q b c ks ys ∧ ∀ (x : V) (d : PyData) (H' : Hp), Dd (nw H H') 2 x d → HandAt H' p q → Keep H H' p → Q x H'
section
variable {P : Program} {w : World} {K : PySem.W.Frag} {mg : Str → Option Value} {base : Heap}
end
end Kx


set_option maxHeartbeats 4000000
namespace Kx
open PySem L2
theorem strs_dds {H : Hp} {n : Nat} : ∀ {zs : List Str}, (∀ z ∈ zs, Fine z) → Dds H n (zs.map V.str) (zs.map PyData.str)
  | [], _ => .nil
  | z :: zs, h => .cons (.str z (h z (.head _))) (strs_dds fun y m => h y (.tail _ m))
theorem strs_dd {H : Hp} {a : Addr} {zs : List Str} (h : H a = some (.lst (zs.map V.str))) (l : zs.length ≤ 10) (f : ∀ z ∈ zs, Fine z) : Dd H 1 (.ref a) (.list (zs.map PyData.str)) := Dd.lstP h (by rw [List.length_map]; exact l) (strs_dds f)
theorem Fr.free {b p q c : Addr} {ys : List V} {H0 Hs H : Hp} (f : Fr b p q ys H0 Hs H) (hc : H c = none) : H0 c = none ∧ c ≠ b ∧ c ≠ p ∧ c ≠ q := by
  have cp := f.hp.ap hc
  refine ⟨?_, (ne_of_none f.hb hc).symm, cp, f.hp.aq hc⟩
  cases e : H0 c with
  | none => rfl
  | some u => exact absurd hc (by rw [f.kp c u e cp]; exact fun z => nomatch z)
/-- what is new since H0, but for the thing at b -/
def hn (b : Addr) (H0 H : Hp) : Hp := wo b (nw H0 H)
theorem hn_nw {b : Addr} {H0 H : Hp} : Same (hn b H0 H) (nw H0 H) := wo_same
theorem hn_get {b c : Addr} {H0 H : Hp} {o : HO} (h : hn b H0 H c = some o) : H c = some o ∧ c ≠ b ∧ H0 c = none := by
  have e := hn_nw c o h
  have cb : c ≠ b := fun e => by unfold hn at h; rw [e] at h; unfold wo at h; rw [if_pos rfl] at h; cases h
  exact ⟨(nw_get e).2, cb, (nw_get e).1⟩
theorem hn_at {b c : Addr} {H0 H : Hp} {o : HO} (h : H c = some o) (n : c ≠ b) (h0 : H0 c = none) : hn b H0 H c = some o := wo_at (nw_at h0 h) n
theorem hn_b {b : Addr} {H0 H : Hp} {o : HO} : Same (hn b H0 H) (hn b H0 (upd H b o)) := fun c u e => by
  obtain ⟨h, n, h0⟩ := hn_get e
  exact hn_at (by rw [upd_ne n]; exact h) n h0
theorem Fr.newN {b p q l : Addr} {ys : List V} {H0 Hs H : Hp} {o : HO} (f : Fr b p q ys H0 Hs H) (hl : H l = none) : Fr b p q ys H0 Hs (upd H l o) ∧ hn b H0 (upd H l o) l = some o ∧ Same (hn b H0 H) (hn b H0 (upd H l o)) := by
  obtain ⟨l0, lb, lp, lq⟩ := f.free hl
  refine ⟨(f.new hl).1, hn_at upd_same lb l0, fun c u e => ?_⟩
  obtain ⟨h, n, h0⟩ := hn_get e
  exact hn_at (by rw [upd_ne (ne_of_none h hl)]; exact h) n h0
theorem Fr.drawN {b p q : Addr} {ys : List V} {H0 Hs H H' : Hp} (f : Fr b p q ys H0 Hs H) (hp0 : ∃ o, H0 p = some o) (k : Keep H H' p) (h : HandAt H' p q) : Fr b p q ys H0 Hs H' ∧ Same (hn b H0 H) (hn b H0 H') := by
  refine ⟨(f.draw k h).1, fun c u e => ?_⟩
  obtain ⟨g, n, h0⟩ := hn_get e
  obtain ⟨o, hp0⟩ := hp0
  exact hn_at (k c u g fun z => by rw [z, hp0] at h0; cases h0) n h0
theorem nw_hn {b p q : Addr} {ys : List V} {H0 Hs H H' : Hp} (f : Fr b p q ys H0 Hs H) : Same (nw H H') (hn b H0 H') := fun c u e => by
  obtain ⟨h, g⟩ := nw_get e
  obtain ⟨c0, cb, _, _⟩ := f.free h
  exact hn_at g cb c0
section
variable {P : Program} {w : World} {K : PySem.W.Frag} {mg : Str → Option Value} {base : Heap}
end
end Kx


set_option maxHeartbeats 4000000
namespace Kx
open PySem PySem.Spec PyProof.Rows L2
abbrev QT : VK := fun v _ => v = .bl true
abbrev EF : XK := fun _ _ _ => False
/-- the body of the law's def, asked at the call that the row makes (nothing is being shown by repr there) -/
def LawBody (P : Program) (w : World) (K : PySem.W.Frag) (mg : Str → Option Value) (base : Heap) (N : List Str) (x : Str) (st : Stmt) (fa : Addr) (k : Nat) : Prop :=
  ∀ (cdv : Value) (s : Shared) (H : Hp) (a : Addr) (ns : List Int), Room k (callerA.deeper (envOfC x (defScope st) s.heap.objs.size fa cdv)) → SqL K H a (ns.map V.int) → ns.length ≤ 63 →
    ∃ t, PSs (cxOf CX0 P w K mg base N x (defScope st) fa cdv callerA [] s H EF).nox (defBody st) t ∧ t { nx := fun _ H' => QT .non H', rt := QT } (start N [.ref a]) H
section
variable {P : Program} {w : World} {K : PySem.W.Frag} {mg mb : Str → Option Value} {k : Nat} {fa a : Addr} {fd : FuncData} {x y : Str} {st : Stmt} {N : List Str}
theorem law_at {base : Heap} (F : Fun K x x st fa fd) (S : FnScope N [y] (defScope st)) (hr : Room (k + 1) callerA) (B : LawBody P w K mg base N x st fa k) (bind : ∀ (s : Shared) (u : Value), BindsTo s fd ⟨[u], []⟩ [(y, u)])
    {s : Shared} {H : Hp} {ns : List Int} (e0 : Env0 P w K mg base callerA [] s H) (hS : SqL K H a (ns.map V.int)) (hn : ns.length ≤ 63) :
    codeAny (model P w) callerA (.call (.ref fa) ⟨[.ref a], []⟩) (CR CX0 [] P w H s QT EF) s := by
  obtain ⟨oc, od, kV, doc, pm, an, cdv, ct, osl, rfl, lk, hcd⟩ := F.ex
  have KX : K.In s.heap := e0.mod.kin.keeps fun b o e => (e0.bs b o e).1
  have noLim : s.heap.NoLimit := e0.mod.nolimit.keeps fun b o e => (e0.bs b o e).1
  have kinds : ∀ z ∈ [(y, Value.ref a)], (defScope st).names.lookup z.1 = some .local ∨ ((defScope st).names.lookup z.1 = some .cell ∧ ((cellsFrom (s.heap.objs.size + 1) (defScope st).names []).lookup z.1).isSome = true) := fun z hz => by
    obtain rfl : z = (y, Value.ref a) := by simpa using hz
    rcases S.par y (.head _) with q | q
    · exact .inl q
    · exact .inr ⟨q, PySem.W.cellsFrom_some _ _ _ (.inl q)⟩
  refine codeAny_call_function hr.depth (KX _ _ lk) rfl S.co S.gen rfl (PySem.W.codeRec_of KX hcd) (bind s (.ref a) _ _ _ _ (wpAny_newFunctionEnv_cells S.kind kinds fun env he s1 z => ?_))
  subst he
  obtain ⟨t, ht, hq⟩ := B cdv s H a ns (hr.deeper _) hS hn
  refine ⟨noLim.keeps z.toInCall.keep, codeAny_func (wpAny_mono (ht.nox.run [] s1 (start N [.ref a]) H _ (inv_start S hr.hd e0 rfl (.cons rfl .nil) z) hq) (fun fl s' got => ?_) fun e s' got => got)⟩
  cases fl with
  | ret u => obtain ⟨v, σ', H', J, rv, q⟩ := got; exact ⟨v, H', J.os, J.bare, J.base, J.hok, rv, q⟩
  | next => obtain ⟨σ', H', J, q⟩ := got; exact absurd q (fun z => nomatch z)
  | brk => obtain ⟨_, _, _, q⟩ := got; exact q.elim
  | cont => obtain ⟨_, _, _, q⟩ := got; exact q.elim
/-- behind the top nothing is tracked but the script -/
theorem env_at {s : Shared} {H : Hp} {vs : List Value} (KX : K.In s.heap) (main : s.heap.Ns mainGlobals mg) (blt : s.heap.Ns builtinsNs mb) (boot : ∀ x : Str, x ≠ "__name__" → mb x = bootBuiltins x) (lim : s.heap.NoLimit) (gens : s.gens = #[])
    (at_ : s.heap.get? a = some { cls := .type "list", data := .seq vs.toArray }) (ok : HOk P w H s.heap) (only : ∀ b, b ≠ a → H b = none) (mine : H a = none ∨ K.lookup a = none) : Env0 P w K mg (hidT s.heap H) callerA [] s H := by
  have keepK : K.In (hidT s.heap H) := fun b o e => hidT_get (KX b o e) (by
    by_cases z : b = a
    · subst z
      rcases mine with q | q
      · exact q
      · rw [q] at e; cases e
    · exact only b z)
  have keepN : ∀ {b : Addr} {m : Str → Option Value}, s.heap.Ns b m → (hidT s.heap H).Ns b m := by
    rintro b m ⟨o, es, ep, e, d, r⟩
    refine ⟨o, es, ep, hidT_get e (only b fun z => ?_), d, r⟩
    subst z
    rw [at_] at e
    cases e
    cases d
  obtain ⟨mc, l1, l2⟩ := lim
  exact ⟨rfl, ⟨keepK, keepN main, ⟨mb, keepN blt, boot⟩, ⟨mc, keepN l1, l2⟩⟩, fun b o e => of_hidT e, Nat.le_of_eq (hidT_size _ _), trivial, fun b hb => (nomatch hb), ok, .of_eq gens⟩
theorem law_end {s : Shared} {vs : List Value} {ns : List Int} (KX : K.In s.heap) (main : s.heap.Ns mainGlobals mg) (blt : s.heap.Ns builtinsNs mb) (boot : ∀ x : Str, x ≠ "__name__" → mb x = bootBuiltins x) (lim : s.heap.NoLimit) (gens : s.gens = #[])
    (at_ : s.heap.get? a = some { cls := .type "list", data := .seq vs.toArray }) (hints : IntsAre vs ns) (hn : ns.length ≤ 63)
    (run : ∀ (base : Heap) (H : Hp), K.In base → base.Ns mainGlobals mg → Env0 P w K mg base callerA [] s H → SqL K H a (ns.map V.int) → codeAny (model P w) callerA (.call (.ref fa) ⟨[.ref a], []⟩) (CR CX0 [] P w H s QT EF) s) :
    codeAny (model P w) callerA (.call (.ref fa) ⟨[.ref a], []⟩) (fun r s' => r = .ok (.ret (.bool true)) ∧ OldK s.heap s'.heap ∧ s'.os = s.os ∧ AllBare s'.gens) s := by
  have rv := vals_ints hints
  have fits : (ns.map V.int).length ≤ sizeLine := by rw [List.length_map]; exact Nat.le_of_lt (small1000 (by omega))
  have go : ∀ H : Hp, (∀ b, b ≠ a → H b = none) → (H a = none ∧ SqL K H a (ns.map V.int) ∨ K.lookup a = none ∧ H a = some (.frz { cls := .type "list", data := .seq vs.toArray } (.lst (ns.map V.int)))) →
      codeAny (model P w) callerA (.call (.ref fa) ⟨[.ref a], []⟩) (fun r s' => r = .ok (.ret (.bool true)) ∧ OldK s.heap s'.heap ∧ s'.os = s.os ∧ AllBare s'.gens) s := by
    intro H only mine
    have ok : HOk P w H s.heap := fun b u e => by
      by_cases z : b = a
      · subst z
        rcases mine with ⟨q, _⟩ | ⟨_, q⟩
        · rw [q] at e; cases e
        · rw [q] at e
          cases e
          exact ⟨at_, fits, vs, _, rv, at_⟩
      · rw [only b z] at e; cases e
    have e0 := env_at (P := P) (w := w) KX main blt boot lim gens at_ ok only (mine.elim (fun q => .inl q.1) fun q => .inr q.1)
    refine codeAny_mono (run _ H e0.mod.kin e0.mod.glob e0 (mine.elim (fun q => q.2) fun q => .inl (.inr ⟨_, q.2⟩))) fun r s' got => ?_
    rcases r with e | (_ | _ | _ | u)
    · exact got.elim
    · exact got.elim
    · exact got.elim
    · exact got.elim
    · obtain ⟨v, H', os, bare, un, ok', rel, q⟩ := got
      obtain rfl : v = .bl true := q
      obtain rfl : u = Value.bool true := rel
      refine ⟨rfl, OldK.of_keep fun b o e => ?_, os, bare⟩
      cases q : H b with
      | none => exact un.keep b o e q (fun z => (nomatch z)) (fun z => (nomatch z))
      | some u =>
        have z : b = a := Classical.byContradiction fun z => by rw [only b z] at q; cases q
        subst z
        rcases mine with ⟨q2, _⟩ | ⟨_, q2⟩
        · rw [q2] at q; cases q
        · rw [at_] at e
          cases e
          exact (ok' b _ (un.frzs b _ _ q2)).1
  cases hk : K.lookup a with
  | some o =>
    have e := KX a o hk
    rw [at_] at e
    cases e
    exact go (fun _ => none) (fun _ _ => rfl) (.inl ⟨rfl, .inr ⟨_, vs.toArray, _, hk, rfl, rfl, rfl, by rw [List.size_toArray, hints.length]; exact Nat.le_of_lt (small1000 (by omega)), by simpa using rv⟩⟩)
  | none => exact go (fun b => if b = a then some (.frz { cls := .type "list", data := .seq vs.toArray } (.lst (ns.map V.int))) else none) (fun b z => if_neg z) (.inr ⟨hk, if_pos rfl⟩)
end
theorem law_walk {l : PySem.W.OpenLaw} {q : Program} {loose : List Str} {XP : (Str → Option Value) → Heap → Prop} {YP : World → Heap → Prop} {d : DefRec} {K : Params → PySem.W.Frag} (hn : l.most = some 63) (hdf : d.params.defaults = []) (hY : ∀ (w : World) (h : Heap), YP w h → (K w.params).In h)
    (F : ∀ (w : World) (mg : Str → Option Value) (fa : Addr) (h : Heap), (K w.params).In h → h.Ns mainGlobals mg → mg d.name = some (.ref fa) →
      ∀ (base : Heap) (s : Shared) (H : Hp) (a : Addr) (ns : List Int), (K w.params).In base → base.Ns mainGlobals mg → Env0 l.prog w (K w.params) mg base callerA [] s H → SqL (K w.params) H a (ns.map V.int) → ns.length ≤ 63 →
        codeAny (model l.prog w) callerA (.call (.ref fa) ⟨[.ref a], []⟩) (CR CX0 [] l.prog w H s QT EF) s) : PySem.W.WalkO q loose XP YP l.row.toRowW d [] (fun f vs => PySem.call f vs) :=
  Att.attach_call hn hdf fun w s₀ s₁ mg mb fa o pm cd doc a vs ns G Y ho hd hcd hmg hobj hints hlen hg =>
    law_end (hY w _ Y) G.T.g G.T.b G.T.builtins G.T.nolimit hg hobj hints hlen fun base H kin main e0 hS => F w mg fa _ (hY w _ Y) G.T.g hmg base s₁ H a ns kin main e0 hS hlen
end Kx

set_option maxHeartbeats 4000000
/-! try: .. except A as e: .. except B as e: ..: clauses with one and the same name, tried from the first -/
namespace Kx
open PySem PySem.Spec PyProof.Rows L2
abbrev Suit := Addr → Value → Option Addr → TS
/-- what such clauses wish -/
def wEach (K : PySem.W.Frag) (Wo : WX) (D : Ends) (i : Nat) : List (Value × Suit) → WX
  | [] => Wo
  | (c, ts) :: r => wAs K c i ts (wEach K Wo D i r) D
inductive Clauses (X : Cx) (n : Str) : List ExceptHandler → List (Value × Suit) → Prop
  | nil : Clauses X n [] []
  | cons {x : Str} {c : Value} {ts : Suit} {b₁ : Stmt} {more : List Stmt} {q1 q2 : Pos} {hds : List ExceptHandler} {l : List (Value × Suit)} (hc : Names X x c)
      (su : ∀ (a : Addr) (o : Obj) (cls : Value) (d : Option Addr) (pn : List (Addr × Obj)), Zc cls d o → (∃ vs, o.data = .fields vs) → PSs (X.suite a ((a, o) :: pn)) (b₁ :: more) (ts a cls d)) (r : Clauses X n hds l) :
      Clauses X n (.ExceptHandler (some (.Name x q1)) (some n) (b₁ :: more) q2 :: hds) ((c, ts) :: l)
section
variable {X : Cx} {n : Str} {i : Nat} {body : List Stmt} {c₁ : ExceptHandler} {hds : List ExceptHandler} {l : List (Value × Suit)} {pos : Pos} {tb : WX → TS} {Wo : WX}
/-- how a suite of a named clause goes on -/
theorem suite_ends {pins : List (Addr × Obj)} {D : Ends} {f : Flow} {s : Shared} {a : Addr} {o : Obj} {q : Pos} {pn : List (Addr × Obj)} (ok : X.Ok) (nd : X.N.Nodup) (at_ : X.N[i]? = some n) (lc : X.env.kindOf n = some .local)
    (h : SP (X.suite a ((a, o) :: (pn ++ pins))) [] { nx := fun σ' H' => D.nx (σ'.set i none) H', rt := D.rt, bk := fun σ' H' => D.bk (σ'.set i none) H', ct := fun σ' H' => D.ct (σ'.set i none) H' } f s) (hpn : pn = X.pn) :
    wpAny (model X.prog X.w) X.A (do bindName X.env n .none; unbindBehindTheSuite X.env n q) (fun _ s2 => SP X pins D f s2) X.xe s := by
  subst hpn
  cases f with
  | ret u => obtain ⟨v, σ1, H1, S1, r1, q1⟩ := h; exact gone_ok (S1.unsuite ok) nd at_ lc fun s2 J => ⟨_, _, _, J, r1, q1⟩
  | next => obtain ⟨σ1, H1, S1, q1⟩ := h; exact gone_ok (S1.unsuite ok) nd at_ lc fun s2 J => ⟨_, _, J, q1⟩
  | brk => obtain ⟨σ1, H1, S1, q1⟩ := h; exact gone_ok (S1.unsuite ok) nd at_ lc fun s2 J => ⟨_, _, J, q1⟩
  | cont => obtain ⟨σ1, H1, S1, q1⟩ := h; exact gone_ok (S1.unsuite ok) nd at_ lc fun s2 J => ⟨_, _, J, q1⟩
theorem ps_try_each (hs : X.stack = X.env :: X.outer) (hf : X.env.frame = some X.env.locals) (nd : X.N.Nodup) (at_ : X.N[i]? = some n) (lc : X.env.kindOf n = some .local) (tk : Takes X Wo)
    (hb : ∀ (W : WX) (pn : List (Addr × Obj)) (xe : Value → Shared → Prop), Takes (X.tr pn xe) W → PassesOwn (model X.prog X.w) X.A X.env xe → PSs (X.tr pn xe) body (tb W))
    (hh : Clauses X n (c₁ :: hds) l) : PS X (.Try body (c₁ :: hds) [] [] pos) (fun D σ H => tb (wEach X.K Wo D i l) D σ H) := by
  refine ⟨fun pins s σ H D I h => ?_⟩
  have ok := I.ok
  have fr : X.A.frames = some (X.env :: X.outer) := ok.frames.trans (congrArg some hs)
  refine wpAny_Try_except (wpAny_mono ((hb (wEach X.K Wo D i l) (X.pn ++ pins) _ (fun u s' xx => ?_) PassesOwn.looking).run [] s σ H D (I.toTry _) h) (fun f s1 hsp => ?_) (fun e s1 he => he))
  · obtain ⟨a, B, sI, pins', σ', H', cls, d, rfl, J', nb, up, sky, na, os, ag, w⟩ := xx
    have J : Inv X pins σ' H' sI := J'.ofTry ok
    rw [hs] at sky
    show wpAny (model X.prog X.w) X.A (noteFrame (.ref a) X.env) _ _ _
    refine Sky.land Zc.steady fr hf sky fun h3 fl3 up3 => ?_
    have up03 := up.trans up3
    obtain ⟨o3, vs3, g3, z3, d3⟩ := fl3.there
    have out : a ∉ frs (X.env :: X.outer) := fun hm => by
      obtain ⟨_, o', e', hnf⟩ := fl3.2.2.1.mem hm
      rw [g3] at e'
      cases e'
      exact hnf _ d3
    have nL : a ≠ X.env.locals := fun z => out (List.mem_filterMap.mpr ⟨X.env, .head _, by rw [hf, z]⟩)
    have nF : a ∉ X.fs := fun hm => by
      obtain ⟨e, he, q⟩ := List.mem_filterMap.mp hm
      exact out (List.mem_filterMap.mpr ⟨e, .tail _ he, q⟩)
    have S3 := (show Inv X pins σ' H' { s' with heap := h3 } from J.landed nb fl3.1 up03 os ag).suite g3 d3 na nL nF
    have LT : PySem.W.Looks (model X.prog X.w) h3 (typeOf (.ref a)) cls := fun A Q E s k q => wpAny_typeOf_ref (k _ _ g3) (by rw [z3.1]; exact q)
    clear h
    revert w
    generalize c₁ :: hds = hdl at hh
    intro w
    induction hh with
    | nil =>
      refine wpAny_handleBy_nil ?_
      obtain ⟨_, _, _, oe, vs, T, oT, ts', g, hz, hd, h1, hr⟩ := id fl3
      unfold PySem.passOn
      refine wpAny_bind (wpAny_field g hd h1 ?_)
      rw [if_neg (show ¬ (Value.ref T == Value.none) = true by simp)]
      have fin : wpAny (model X.prog X.w) X.A (setFlight (.ref a) X.env.frame) (fun _ s4 => wpAny (model X.prog X.w) X.A (throw (.ref a) : Sem Flow) (SP X pins D) X.xe s4) X.xe { s' with heap := h3 } := by
        rw [hf]
        exact HandSPX.setFlight_upZ fl3 fun h4 hh4 up4 => wpAny_throw (tk _ _ ⟨a, B, sI, pins, σ', H', cls, d, rfl, J, nb, up03.trans up4, .inr (.inr (by rw [hs]; exact hh4)), na, os, ag, w⟩)
      first
        | exact wpAny_bind (wpAny_pure (wpAny_bind fin))
        | exact wpAny_bind fin
    | @cons x c ts b₁ more q1 q2 hds2 l2 hc su r ih =>
      obtain ⟨b, hb1, yes, no⟩ := w
      refine wpAny_handleBy_cons (codeAny_handlers_test ?_) (by intro q; cases q)
      have LM := PySem.W.exm_one (M := model X.prog X.w) S3.kIn LT hb1
      have named : ∀ {Q : Value → Shared → Prop} {E : Value → Shared → Prop}, Q c { s' with heap := h3 } → wpAny (model X.prog X.w) (X.A.mark (some (.ref a))) (eval (.Name x q1) X.env) Q E { s' with heap := h3 } := fun {Q E} q => by
        rcases hc with ⟨hg, hd0, hm | ⟨hm, hv, hn⟩⟩
        · exact ld_glob (X := X.suite a ((a, o3) :: (X.pn ++ pins))) S3 hg hm q hd0
        · exact ld_blt (X := X.suite a ((a, o3) :: (X.pn ++ pins))) S3 hg hm hv q hn hd0
      refine named (LM.here ?_)
      cases b with
      | false => exact ih (no rfl)
      | true =>
        refine codeAny_handlers_suite_as (HandSPX.lands_againZ fl3 fun h4 fl4 up4 => ?_)
        obtain ⟨o4, vs4, g4, z4, d4⟩ := fl4.there
        have S4 := (show Inv X pins σ' H' { s' with heap := h4 } from J.landed nb fl4.1 (up03.trans up4) os ag).suite g4 d4 na nL nF
        refine store_ok (X := X.suite a ((a, o4) :: (X.pn ++ pins))) (v := .ref a) S4 nd at_ (.inl lc) rfl (fun s5 S5 => ?_) (.inr lc)
        exact wpAny_mono ((su a o4 cls d (X.pn ++ pins) z4 ⟨_, d4⟩).run [] s5 _ H' _ S5 (yes rfl a na)) (fun f s6 hsp => suite_ends ok nd at_ lc hsp rfl) (fun _ _ z => z.elim)
  · cases f with
    | ret u => obtain ⟨v, σ1, H1, J, r, q⟩ := hsp; exact ⟨v, σ1, H1, J.ofTry ok, r, q⟩
    | next => obtain ⟨σ1, H1, J, q⟩ := hsp; exact wpAny_execs_nil ⟨σ1, H1, J.ofTry ok, q⟩
    | brk => obtain ⟨σ1, H1, J, q⟩ := hsp; exact ⟨σ1, H1, J.ofTry ok, q⟩
    | cont => obtain ⟨σ1, H1, J, q⟩ := hsp; exact ⟨σ1, H1, J.ofTry ok, q⟩
end
end Kx

set_option maxHeartbeats 4000000
namespace Kx
open PySem PySem.Spec PyProof.Rows L2
/-! a list comprehension whose step may be refused -/
theorem note_same {e : Value} {env env' : Env} (h : env.frame = env'.frame) : noteFrame e env = noteFrame e env' := by
  unfold noteFrame PySem.frameOf
  rw [h]
theorem ff_move {B B' h h' : Heap} : ∀ {l : List Env}, h.FunFrames B l → (∀ L ∈ frs l, B'.get? L = none ∧ h'.get? L = h.get? L) → h'.FunFrames B' l
  | [], _, _ => trivial
  | env :: l, x, k => by
    obtain ⟨hk, ⟨L, o, hf, _, ho, hd⟩, hr⟩ := x
    have z := k L (List.mem_filterMap.mpr ⟨env, List.mem_cons_self, hf⟩)
    exact ⟨hk, ⟨L, o, hf, z.1, z.2.trans ho, hd⟩, ff_move hr fun b hb => by
      obtain ⟨e, he, q⟩ := List.mem_filterMap.mp hb
      exact k b (List.mem_filterMap.mpr ⟨e, List.mem_cons_of_mem _ he, q⟩)⟩
/-- a block in whose step something may be raised, wished as E tells -/
abbrev blkX (X : Cx) (s : Shared) (H : Hp) (scope : Scope) (ce : Env) (fp : List Addr) (E : XK) : Cx :=
  { X.blk s H scope ce fp with xe := fun u s' => ∃ pins σ H' s0, Inv (X.blk s H scope ce fp) pins σ H' s0 ∧ L2.CX X.prog X.w X.stack H' s0 E u s' }
theorem okB {X : Cx} {s : Shared} {H : Hp} {scope : Scope} {ce : Env} {fp : List Addr} {E : XK} (ok : (X.blk s H scope ce fp).Ok) : (blkX X s H scope ce fp E).Ok :=
  ⟨ok.mod, ok.kind, ok.glob, ok.blt, ok.above, ok.inj, ok.has, ok.cab, ok.hd, ok.frames, ok.stk, ok.exf, ok.bs, ok.bsz, ok.noex, ok.exfs, ok.funs, ok.frf⟩
theorem okU {X : Cx} {s : Shared} {H : Hp} {scope : Scope} {ce : Env} {fp : List Addr} {E : XK} (ok : (blkX X s H scope ce fp E).Ok) : (X.blk s H scope ce fp).Ok :=
  ⟨ok.mod, ok.kind, ok.glob, ok.blt, ok.above, ok.inj, ok.has, ok.cab, ok.hd, ok.frames, ok.stk, ok.exf, ok.bs, ok.bsz, ok.noex, ok.exfs, ok.funs, ok.frf⟩
theorem invB {X : Cx} {s : Shared} {H : Hp} {scope : Scope} {ce : Env} {fp : List Addr} {E : XK} {pins : List (Addr × Obj)} {σ : L2.St} {H' : Hp} {s' : Shared} (I : Inv (X.blk s H scope ce fp) pins σ H' s') : Inv (blkX X s H scope ce fp E) pins σ H' s' :=
  ⟨okB I.ok, I.os, I.bare, I.base, I.loc, I.cell, I.free, I.freeC, I.pin, I.hok, I.len⟩
theorem invU {X : Cx} {s : Shared} {H : Hp} {scope : Scope} {ce : Env} {fp : List Addr} {E : XK} {pins : List (Addr × Obj)} {σ : L2.St} {H' : Hp} {s' : Shared} (I : Inv (blkX X s H scope ce fp E) pins σ H' s') : Inv (X.blk s H scope ce fp) pins σ H' s' :=
  ⟨okU I.ok, I.os, I.bare, I.base, I.loc, I.cell, I.free, I.freeC, I.pin, I.hok, I.len⟩
theorem passB {X : Cx} {s : Shared} {H : Hp} {scope : Scope} {ce : Env} {fp : List Addr} {E : XK} (σ : L2.St) : PassesAt (L2.CX X.prog X.w) (blkX X s H scope ce fp E) σ E := fun pins H' s0 _ _ I c => ⟨pins, σ, H', s0, invU I, c⟩
theorem sky_fly {B B0 h : Heap} {l : List Env} {a a0 : Addr} {Z Z0 : Obj → Prop} {L : Addr} (ea : (Value.ref a) = .ref a0) (s : Sky B l a Z L h) (f : HandSPX.FlyingZ B0 l a0 Z0 h) : HandSPX.FlyingZ B l a Z h := by
  cases ea
  obtain ⟨_, _, _, oe, vs, T, oT, ts, he, _, hd, h1, _, _, hT, hdT, h3⟩ := f
  rcases s with ⟨_, _, _, oe', vs', he', _, hd', h1'⟩ | f' | ⟨_, _, _, oe', vs', T', oT', ts', he', _, hd', h1', _, _, hT', hdT', h3'⟩
  · rw [he] at he'; cases he'
    rw [hd] at hd'; cases hd'
    rw [h1] at h1'; cases h1'
  · exact f'
  · rw [he] at he'; cases he'
    rw [hd] at hd'; cases hd'
    rw [h1] at h1'; cases h1'
    rw [hT] at hT'; cases hT'
    rw [hdT] at hdT'; cases hdT'
    rw [h3] at h3'; cases h3'
theorem blk_out {X : Cx} {W : WX} {pins : List (Addr × Obj)} {σ : L2.St} {H3 : Hp} {s3 : Shared} {scope : Scope} {ce : Env} {fp : List Addr} {use : Option (Value → Sem Unit)} {Qf : Value → Shared → Prop} {acc u : Value} {s' : Shared}
    (hs : X.stack = X.env :: X.outer) (hf : X.env.frame = some X.env.locals) (tk : Takes X W) (I3 : Inv X pins σ H3 s3) (fr : ce.frame = X.env.frame) (cL : ce.locals = s3.heap.objs.size) (hfp : ∀ b ∈ fp, FpOk X pins H3 b)
    (h : ∃ pins' σ' H' s0, Inv (X.blk s3 H3 scope ce fp) pins' σ' H' s0 ∧ L2.CX X.prog X.w X.stack H' s0 (fun cls d H => W cls d σ H) u s') :
    notedBy (model X.prog X.w) X.A ce (fun e s2 => compEnds (model X.prog X.w) X.A X.xe use Qf acc ce (.error e) s2) u s' := by
  obtain ⟨pins', σ', H', s0, I0, c⟩ := h
  have c0 := c
  obtain ⟨a0, B0, _, _, _, e0, fl0, _⟩ := c0
  obtain ⟨a, B, sI, p2, σ2, H2, cls, d, rfl, J, nb, up, sky, na, os, ag, w⟩ := XE.of_call (X := X.blk s3 H3 scope ce fp) (W := fun cls d _ H => W cls d σ H) I0 (fun _ _ _ h => h) c
  have fl : HandSPX.FlyingZ B X.stack a (Zc cls d) s'.heap := sky_fly e0 sky fl0
  have hfr : X.A.frames = some (X.env :: X.outer) := by rw [I3.ok.frames, hs]
  show wpAny _ _ (noteFrame (.ref a) ce) _ _ _
  rw [note_same fr]
  rw [hs] at fl
  refine HandSPX.looks_onZ Zc.steady hfr hf fl fun h1 held up1 => ?_
  have J1 : Inv (X.blk s3 H3 scope ce fp) p2 σ2 H2 { s' with heap := h1 } := J.landed (s' := { s' with heap := h1 }) nb held.1 (up.trans up1) os ag
  obtain ⟨m, hn, _⟩ := J1.loc
  have hn : h1.Ns ce.locals m := hn
  have hC : H2 ce.locals = none := J.free
  have fC : FpOk X pins H2 ce.locals := I3.fpOk (Nat.le_of_eq cL.symm) hC
  have nfr : ce.locals ∉ frs X.stack := fun hm => by
    rw [hs] at hm
    obtain ⟨e, he, q⟩ := List.mem_filterMap.mp hm
    rcases List.mem_cons.mp he with z | z
    · subst z
      rw [hf] at q
      exact fC.2.1 (Option.some.inj q).symm
    · exact fC.2.2.1 (List.mem_filterMap.mpr ⟨e, z, q⟩)
  obtain ⟨oC, BC⟩ : ∃ o, B.get? ce.locals = some o := by
    obtain ⟨m', hn', _⟩ := J.loc
    obtain ⟨o, _, _, ho, _⟩ := hn'
    exact ⟨o, nb _ _ ho nfr⟩
  have I7 : Inv X pins σ H2 sI := I3.call' (ch := fp) J.os J.base J.hok J.bare fun b hb => ⟨(hfp b hb).2.2.2.1, (hfp b hb).2.1, (hfp b hb).2.2.2.2.1, (hfp b hb).2.2.2.2.2⟩
  obtain ⟨f0, f1, f2, f3, f4, f5⟩ := fC
  have I8 : Inv X pins σ H2 { sI with heap := PySem.W.hideAll sI.heap [ce.locals] } := I7.turned (t' := sI.toks) (fun b o hb e => PySem.W.hideAll_get _ e (by simpa using hb)) f0 f1 f3 f4 f5
  have bB : ∀ b o, (PySem.W.hideAll B [ce.locals]).get? b = some o → B.get? b = some o ∧ b ≠ ce.locals := fun b o e => ⟨PySem.W.of_hideAll _ e, fun z => by
    rw [PySem.W.hideAll_none _ (show b ∈ [ce.locals] by simp [z])] at e
    cases e⟩
  have bN : ∀ b, B.get? b = none → (PySem.W.hideAll B [ce.locals]).get? b = none := fun b e => by
    cases q : (PySem.W.hideAll B [ce.locals]).get? b with
    | none => rfl
    | some o => rw [(bB b o q).1] at e; cases e
  obtain ⟨k1, k2, k3, oe, vs, T, oT, ts, he, hz, hd, h1', hnT, hTe, hT, hdT, h3'⟩ := held
  have aC : a ≠ ce.locals := fun z => by rw [z, BC] at k2; cases k2
  have TC : T ≠ ce.locals := fun z => by rw [z, BC] at hnT; cases hnT
  have goal : CompFails (model X.prog X.w) X.A X.xe ce (.ref a) { s' with heap := h1 } := by
    refine ⟨m, hn, fun h2 m2 hn2 sb => ?_⟩
    have he2 : h2.get? a = some oe := (sb.2 a aC).trans he
    have held2 : HandSPX.HeldZ (PySem.W.hideAll B [ce.locals]) (X.env :: X.outer) a (Zc cls d) X.env.locals h2 := by
      refine ⟨fun b o e => ?_, bN a k2, ff_move k3 fun L hL => ⟨bN L (k3.mem hL).1, sb.2 L fun z => nfr (by rw [hs, ← z]; exact hL)⟩, oe, vs, T, oT, ts, he2, hz, hd, h1', bN T hnT, hTe, (sb.2 T TC).trans hT, hdT, h3'⟩
      obtain ⟨e1, ne⟩ := bB b o e
      exact (sb.2 b ne).trans (k1 b o e1)
    unfold PySem.passOn
    refine wpAny_bind (wpAny_field he2 hd h1' ?_)
    rw [if_neg (show ¬ ((Value.ref T == Value.none) = true) by simp)]
    refine (fun (fly : wpAny (model X.prog X.w) X.A (setFlight (.ref a) ce.frame) (fun _ s4 => wpAny (model X.prog X.w) X.A (throw (.ref a) : Sem Value) (fun _ _ => False) X.xe s4) X.xe { s' with heap := h2 }) => ?_) ?_
    · first
        | exact wpAny_bind fly
        | exact wpAny_bind (wpAny_pure (wpAny_bind fly))
    rw [fr, hf]
    refine HandSPX.setFlight_onZ held2 fun h4 held4 up4 => wpAny_throw ?_
    refine tk _ _ ⟨a, PySem.W.hideAll B [ce.locals], { sI with heap := PySem.W.hideAll sI.heap [ce.locals] }, pins, σ, H2, cls, d, rfl, I8, fun b o e hb => ?_, fun b o e hnf => ?_, .inr (.inr (by rw [hs]; exact held4)), na, os, ag, w⟩
    · have ne : b ≠ ce.locals := fun z => by
        have e : (PySem.W.hideAll sI.heap [ce.locals]).get? b = some o := e
        rw [PySem.W.hideAll_none _ (show b ∈ [ce.locals] by simp [z])] at e
        cases e
      exact PySem.W.hideAll_get _ (nb b o (PySem.W.of_hideAll _ e) hb) (by simpa using ne)
    · have ne : b ≠ ce.locals := fun z => by
        have e : (PySem.W.hideAll sI.heap [ce.locals]).get? b = some o := e
        rw [PySem.W.hideAll_none _ (show b ∈ [ce.locals] by simp [z])] at e
        cases e
      obtain ⟨sl, e1⟩ := (up.trans up1) b o (PySem.W.of_hideAll _ e) hnf
      exact up4 b { o with slots := sl } ((sb.2 b ne).trans e1) hnf
  cases use <;> exact goal

theorem mono2 {α : Type} {m : Sem α} {Q Q' : α → Shared → Prop} {E E' : Value → Shared → Prop} {M : Model} {A : Around} {s : Shared} (h : wpAny M A m Q E s) (hq : ∀ a s, Q a s → Q' a s) (he : ∀ a s, E a s → E' a s) : wpAny M A m Q' E' s := wpAny_mono h hq he
section
variable {X : Cx} {W : WX} {elt tg iter : Expr} {ifs : List Expr} {scope : Scope} {own : List (Str × Nat)} {pos pos' : Pos} {wi : TI} {g : TG} {tt : TT} {te : XK → TE}
/-- as tLc, the step's wish for what it raises being W's -/
def tLcX (W : WX) (wi : TI) (g : TG) (tt : TT) (te : XK → TE) (vs : List Nat) : TE := fun σ H Q => tLc wi g tt (te fun cls d H' => W cls d σ H') vs σ H Q
theorem lc_goes {pins : List (Addr × Obj)} {s : Shared} {σ : L2.St} {H : Hp} {Q : VK} {use : Option (Value → Sem Unit)} {Qf : Value → Shared → Prop} (hs : X.stack = X.env :: X.outer) (hf : X.env.frame = some X.env.locals) (tk : Takes X W)
    (hc : X.calm = true) (hN : X.N.Nodup) (I : Inv X pins σ H s) (hi : PI X tg iter wi) (ok : BlkOk X.N X.env.scope scope own)
    (hg : ∀ (E : XK) (s : Shared) (H : Hp) (C : Addr) (cl : List (Str × Addr)) (fp : List Addr), PG (blkX X s H scope (compEnvC scope cl C X.env) fp E) tg g)
    (ht : ∀ (E : XK) (s : Shared) (H : Hp) (C : Addr) (cl : List (Str × Addr)) (fp : List Addr), PTs (blkX X s H scope (compEnvC scope cl C X.env) fp E) ifs tt)
    (he : ∀ (E : XK) (s : Shared) (H : Hp) (C : Addr) (cl : List (Str × Addr)) (fp : List Addr), PE (blkX X s H scope (compEnvC scope cl C X.env) fp E) elt (te E)) (hfold : ∀ x, foldedSetIterable iter X.env x = pure x)
    (h : tLcX W wi g tt te (own.map (·.2)) σ H Q)
    (hRR : ∀ D (ce : Env) s' m H', Inv X pins σ H' s' → Q (.ref D) H' → s'.heap.Ns ce.locals m → FpOk X pins H' ce.locals → compEnds (model X.prog X.w) X.A X.xe use Qf (.ref D) ce (.ok .next) s') :
    wpAny (model X.prog X.w) X.A (comprehension (.ListComp elt [⟨tg, iter, ifs, 0⟩] scope pos) scope X.env pos' (newList []) false (eval iter X.env) use) Qf X.xe s := by
  have hfree : ∀ y ∈ scope.names, y.2 = .free → ∃ c, X.env.cells.lookup y.1 = some c := fun y hy e => (ok.free y hy e).elim (fun k => I.ok.has _ (.inl k)) fun k => I.ok.has _ (.inr k)
  refine comprehension_at (use := use) rfl hfold (closure_ok hfree) ok.kind (fun y hy e => by rw [ok.uniq y hy, e]) (thn (hi.run pins s σ H _ I h) fun xv s1 hx => thn hx fun itv s2 h2 => ?_)
  obtain ⟨it, fp, tn, J, H2, rfl, I2, T, st2, f2, q⟩ := h2
  refine wpAny_newObj_type (newEnv_comp ?_) (by show 0 ≤ sizeLine; decide)
  obtain ⟨D, hD⟩ : ∃ D, s2.heap.objs.size = D := ⟨_, rfl⟩
  rw [hD]
  obtain ⟨Wv, ⟨m0, w0⟩, turn⟩ := q D (I2.hok.fresh (Nat.le_of_eq hD))
  obtain ⟨s3, hs3⟩ : ∃ s3, ({ s2 with heap := s2.heap.push { cls := .type "list", data := .seq ([] : List Value).toArray } } : Shared) = s3 := ⟨_, rfl⟩
  have h3 : s3.heap = s2.heap.push { cls := .type "list", data := .seq ([] : List Value).toArray } := by rw [← hs3]
  have I3 : Inv X pins σ (upd H2 D (.lst [])) s3 := by
    subst hs3
    exact I2.laid (t' := s2.toks) (fun b o e => Heap.get?_push_of_some _ e) (Nat.le_of_eq hD) ⟨Nat.zero_le _, [], 0, .nil, by rw [← hD]; exact Heap.get?_push_size _ rfl⟩
  have f3 : ∀ b ∈ fp, FpOk X pins (upd H2 D (.lst [])) b ∧ b < s3.heap.objs.size := fun b hb => by
    obtain ⟨o, e, _⟩ := T.obj _ _ st2 b hb
    have hlt : b < s2.heap.objs.size := Heap.lt_size e
    refine ⟨⟨?_, (f2 b hb).2⟩, by rw [h3, Heap.size_push]; exact Nat.lt_succ_of_lt hlt⟩
    rw [upd_ne (by rw [← hD]; exact Nat.ne_of_lt hlt)]
    exact (f2 b hb).1
  have st3 : tn 0 s3.heap := T.keep _ _ _ st2 fun b _ o e => by rw [h3]; exact Heap.get?_push_of_some _ e
  have I4 := invB (E := fun cls d H' => W cls d σ H') (block_start I3 ok hN f3)
  have pg := hg (fun cls d H' => W cls d σ H') s3 (upd H2 D (.lst [])) s3.heap.objs.size (cellsFrom (s3.heap.objs.size + 1) scope.names (cloFrom X.env.cells scope.names [])) fp
  have pt := ht (fun cls d H' => W cls d σ H') s3 (upd H2 D (.lst [])) s3.heap.objs.size (cellsFrom (s3.heap.objs.size + 1) scope.names (cloFrom X.env.cells scope.names [])) fp
  have pe := he (fun cls d H' => W cls d σ H') s3 (upd H2 D (.lst [])) s3.heap.objs.size (cellsFrom (s3.heap.objs.size + 1) scope.names (cloFrom X.env.cells scope.names [])) fp
  rw [show (({ s2 with heap := s2.heap.push { cls := .type "list", data := .seq ([] : List Value).toArray } } : Shared)) = s3 from hs3]
  show codeAny _ _ (.compStart (.ListComp elt [⟨tg, iter, ifs, 0⟩] scope pos) 0 (.ref it) (.ref D) (compEnvC scope (cellsFrom (s3.heap.objs.size + 1) scope.names (cloFrom X.env.cells scope.names [])) s3.heap.objs.size X.env))
    (compEnds (model X.prog X.w) X.A X.xe use Qf (.ref D) (compEnvC scope (cellsFrom (s3.heap.objs.size + 1) scope.names (cloFrom X.env.cells scope.names [])) s3.heap.objs.size X.env)) { s3 with heap := pushCells (s3.heap.push { cls := .type "dict", data := .dict #[] }) scope.names }
  have nfp : ∀ b ∈ fp, (upd H2 D (.lst [])) b = none := fun b hb => (f3 b hb).1.1
  have eL : (compEnvC scope (cellsFrom (s3.heap.objs.size + 1) scope.names (cloFrom X.env.cells scope.names [])) s3.heap.objs.size X.env).locals = s3.heap.objs.size := rfl
  have eF : (compEnvC scope (cellsFrom (s3.heap.objs.size + 1) scope.names (cloFrom X.env.cells scope.names [])) s3.heap.objs.size X.env).frame = X.env.frame := rfl
  generalize compEnvC scope (cellsFrom (s3.heap.objs.size + 1) scope.names (cloFrom X.env.cells scope.names [])) s3.heap.objs.size X.env = ce at I4 pg pt pe eL eF ⊢
  generalize upd H2 D (.lst []) = H3 at I3 I4 pg pt pe w0 nfp f3
  obtain ⟨s4, hs4⟩ : ∃ s4, ({ s3 with heap := pushCells (s3.heap.push { cls := .type "dict", data := .dict #[] }) scope.names } : Shared) = s4 := ⟨_, rfl⟩
  rw [hs4] at I4 ⊢
  have st4 : tn 0 s4.heap := T.keep _ _ _ st3 fun b _ o e => by rw [← hs4]; exact pushCells_keeps _ _ _ _ (Heap.get?_push_of_some _ e)
  have out : ∀ u s', (blkX X s3 H3 scope ce fp fun cls d H' => W cls d σ H').xe u s' → notedBy (model X.prog X.w) X.A ce (fun e s2 => compEnds (model X.prog X.w) X.A X.xe use Qf (.ref D) ce (.error e) s2) u s' := fun u s' z =>
    blk_out hs hf tk I3 eF eL (fun b hb => (f3 b hb).1) z
  have stat : ∀ {σ' : L2.St} {H' : Hp} {s' : Shared}, Inv (blkX X s3 H3 scope ce fp fun cls d H' => W cls d σ H') [] σ' H' s' → (∀ b ∈ fp, H' b = none) → ∀ b ∈ fp, FpOk (blkX X s3 H3 scope ce fp fun cls d H' => W cls d σ H') [] H' b := fun I' hn b hb =>
    ⟨hn b hb, (I'.ok.exf b hb).1, I'.ok.exfs b hb, .inl hb, fun x c e => (I'.ok.exf b hb).2 x c e, fun p hp => nomatch (show p ∈ ([] : List (Addr × Obj)) from hp)⟩
  have loop : codeAny (model X.prog X.w) X.A (.compLoop (.ListComp elt [⟨tg, iter, ifs, 0⟩] scope pos) 0 (.ref it) (.ref D) ce) (compEnds (model X.prog X.w) X.A X.xe use Qf (.ref D) ce) s4 := by
    refine compLoop_any (fun n s' => ∃ i H', Inv (blkX X s3 H3 scope ce fp fun cls d H' => W cls d σ H') [] (wipe σ (own.map (·.2))) H' s' ∧ tn i s'.heap ∧ (∀ b ∈ fp, H' b = none) ∧ Wv i n H') ?_ m0 ⟨0, H3, I4, st4, nfp, w0⟩
    rintro n s5 ⟨i, H5, I5, st5, n5, w5⟩
    rcases turn i n H5 w5 with ⟨stop, qq⟩ | ⟨go, Nx, hNx, step⟩
    · refine thn (T.done (blkX X s3 H3 scope ce fp fun cls d H' => W cls d σ H') rfl rfl rfl hc i [] s5 _ H5 _ I5 (stat I5 n5) st5 stop) fun r s6 ⟨hr, I6⟩ => ?_
      subst hr
      have I7 : Inv X pins σ H5 s6 := I3.call' (ch := fp) I6.os I6.base I6.hok I6.bare fun b hb => ⟨(f3 b hb).1.2.2.2.1, (f3 b hb).1.2.1, (f3 b hb).1.2.2.2.2.1, (f3 b hb).1.2.2.2.2.2⟩
      have nC : H5 ce.locals = none := I6.free
      obtain ⟨m, hn, _⟩ := I6.loc
      exact hRR D ce s6 m H5 I7 qq hn (I3.fpOk (Nat.le_of_eq eL.symm) nC)
    · refine thn (T.item (blkX X s3 H3 scope ce fp fun cls d H' => W cls d σ H') rfl rfl rfl hc i [] s5 _ H5 _ I5 (stat I5 n5) st5 go) fun r s6 ⟨u, hr, h6⟩ => ?_
      subst hr
      refine thn h6 fun _ s7 ⟨x, H7, I7, r7, y7, st7, n7⟩ => ?_
      have I7' := I7.pinned (stat I7 n7) (T.obj _ _ st7)
      refine mono2 (pg.run _ s7 _ H7 x u _ I7' r7 (step x H7 y7)) (fun _ s8 ⟨σ8, H8, I8, hw8, q8⟩ => ?_) out
      refine mono2 (pt.run _ s8 σ8 H8 _ I8 q8) (fun b s9 ⟨H9, I9, q9⟩ => ?_) out
      have fin : ∀ {s' : Shared} {H' : Hp}, Inv (blkX X s3 H3 scope ce fp fun cls d H' => W cls d σ H') ([] ++ pinsAt fp s7.heap) σ8 H' s' → Nx H' → ∃ m, m < n ∧ ∃ i H', Inv (blkX X s3 H3 scope ce fp fun cls d H' => W cls d σ H') [] (wipe σ (own.map (·.2))) H' s' ∧ tn i s'.heap ∧ (∀ b ∈ fp, H' b = none) ∧ Wv i m H' := fun {s' H'} I' nx => by
        obtain ⟨m', hm, w'⟩ := hNx H' nx
        have pin' : ∀ b ∈ fp, ∀ o, s7.heap.get? b = some o → s'.heap.get? b = some o ∧ H' b = none := fun b hb o e => ⟨(I'.pin (b, o) (List.mem_append_right _ (List.mem_append_right _ (mem_pinsAt hb e)))).1, (I'.pin (b, o) (List.mem_append_right _ (List.mem_append_right _ (mem_pinsAt hb e)))).2.1⟩
        refine ⟨m', hm, i + 1, H', (I'.unpinned (pins := [])).weak (by rw [← hw8, wipe_length]) (fun j v e => ?_), T.keep _ _ _ st7 fun b hb o e => (pin' b hb o e).1, fun b hb => ?_, w'⟩
        · rw [← hw8] at e
          exact (wipe_some e).1
        · obtain ⟨o, e, _⟩ := T.obj _ _ st7 b hb
          exact (pin' b hb o e).2
      cases b with
      | false =>
        rw [if_neg Bool.false_ne_true] at q9
        rw [if_neg Bool.false_ne_true]
        exact fin I9 q9
      | true =>
        rw [if_pos rfl] at q9
        rw [if_pos rfl]
        refine mono2 (pe.run _ s9 σ8 H9 _ I9 q9) (fun z s10 ⟨yv, H10, I10, r10, acc', hD10, hz10, nx⟩ => ?_) out
        exact app_ok (X := blkX X s3 H3 scope ce fp fun cls d H' => W cls d σ H') I10 hD10 hz10 r10 fun s11 I11 => fin I11 nx
  exact codeAny_compStart_list loop (T.self X.A 0 _ _ _ st4 loop)
/-- [..] as a value, its step may be refused -/
theorem pe_lcX (hs : X.stack = X.env :: X.outer) (hf : X.env.frame = some X.env.locals) (tk : Takes X W) (hc : X.calm = true) (hN : X.N.Nodup) (hi : PI X tg iter wi) (ok : BlkOk X.N X.env.scope scope own)
    (hg : ∀ (E : XK) (s : Shared) (H : Hp) (C : Addr) (cl : List (Str × Addr)) (fp : List Addr), PG (blkX X s H scope (compEnvC scope cl C X.env) fp E) tg g)
    (ht : ∀ (E : XK) (s : Shared) (H : Hp) (C : Addr) (cl : List (Str × Addr)) (fp : List Addr), PTs (blkX X s H scope (compEnvC scope cl C X.env) fp E) ifs tt)
    (he : ∀ (E : XK) (s : Shared) (H : Hp) (C : Addr) (cl : List (Str × Addr)) (fp : List Addr), PE (blkX X s H scope (compEnvC scope cl C X.env) fp E) elt (te E)) (hfold : ∀ x, foldedSetIterable iter X.env x = pure x := by intro _; rfl) :
    PE X (.ListComp elt [⟨tg, iter, ifs, 0⟩] scope pos) (tLcX W wi g tt te (own.map (·.2))) := by
  refine ⟨fun pins s σ H Q I h => ?_⟩
  rw [eval_ListComp]
  refine lc_goes hs hf tk hc hN I hi ok hg ht he hfold h fun D ce s' m H' I' q hn f => ⟨m, hn, fun h'' sb => ?_⟩
  obtain ⟨f0, f1, f2, f3, f4, f5⟩ := f
  exact ⟨.ref D, H', I'.turned (t' := s'.toks) (fun b o hb e => (sb.2 b hb).trans e) f0 f1 f3 f4 f5, rfl, q⟩
end
end Kx

set_option maxHeartbeats 4000000
namespace Kx
open PySem L2
theorem line2 {n : Nat} (h : n ≤ 2000000) : n < sizeLine := by
  have e : sizeLine = 16777216 := by decide
  omega
theorem pr_get {α β : Type} {F : α → β → Prop} {xs : List α} {ys : List β} (h : Paired F xs ys) : ∀ {i : Nat} {x : α}, xs[i]? = some x → ∃ y, ys[i]? = some y ∧ F x y := by
  induction h with
  | nil => intro i x e; cases e
  | cons h t ih =>
    intro i x e
    cases i with
    | zero => cases e; exact ⟨_, rfl, h⟩
    | succ i => exact ih e
theorem pr_imp {α β : Type} {F G : α → β → Prop} {xs : List α} {ys : List β} (h : Paired F xs ys) (k : ∀ a b, F a b → G a b) : Paired G xs ys := by
  induction h with
  | nil => exact .nil
  | cons h t ih => exact .cons (k _ _ h) ih
theorem pr_take {α β : Type} {F : α → β → Prop} {xs : List α} {ys : List β} (h : Paired F xs ys) : ∀ n, Paired F (xs.take n) (ys.take n) := by
  induction h with
  | nil => intro n; rw [List.take_nil, List.take_nil]; exact .nil
  | cons h t ih =>
    intro n
    cases n with
    | zero => exact .nil
    | succ n => exact .cons h (ih n)
theorem pr_drop {α β : Type} {F : α → β → Prop} {xs : List α} {ys : List β} (h : Paired F xs ys) : ∀ n, Paired F (xs.drop n) (ys.drop n) := by
  induction h with
  | nil => intro n; rw [List.drop_nil, List.drop_nil]; exact .nil
  | cons h t ih =>
    intro n
    cases n with
    | zero => exact .cons h t
    | succ n => exact ih n
theorem pr_app {α β : Type} {F : α → β → Prop} {xs zs : List α} {ys ws : List β} (h : Paired F xs ys) (k : Paired F zs ws) : Paired F (xs ++ zs) (ys ++ ws) := by
  induction h with
  | nil => exact k
  | cons h t ih => exact .cons h ih
theorem pr_rep {α β : Type} {F : α → β → Prop} {x : α} {y : β} (h : F x y) : ∀ n, Paired F (List.replicate n x) (List.replicate n y)
  | 0 => .nil
  | n + 1 => .cons h (pr_rep h n)
/-! years, as they are told -/
/-- a list or a tuple at b -/
inductive IsSeq (K : PySem.W.Frag) (H : Hp) (b : Addr) (xs : List V) : Prop where
  | lst (h : H b = some (.lst xs)) : IsSeq K H b xs
  | tup (h : H b = some (.tup xs)) : IsSeq K H b xs
  | wr {o : Obj} (e : K.lookup b = some o) (c : o.cls = .type "tuple") (h : ∀ H, SqT K H b xs) : IsSeq K H b xs
theorem IsSeq.keep {K : PySem.W.Frag} {H H' : Hp} {b : Addr} {xs : List V} (h : IsSeq K H b xs) (s : Same H H') : IsSeq K H' b xs := by
  cases h with
  | lst h => exact .lst (s _ _ h)
  | tup h => exact .tup (s _ _ h)
  | wr e c h => exact .wr e c h
theorem IsSeq.sq {K : PySem.W.Frag} {H : Hp} {b : Addr} {xs : List V} (h : IsSeq K H b xs) : SqL K H b xs ∨ SqT K H b xs := by
  cases h with
  | lst h => exact .inl (SqL.of h)
  | tup h => exact .inr (SqT.of h)
  | wr e c h => exact .inr (h H)
theorem IsSeq.off {K : PySem.W.Frag} {H : Hp} {b p : Addr} {xs : List V} {C dx : Addr} {fs : List (Str × V)} (h : IsSeq K H b xs) (hp : H p = some (.ins C dx fs)) : IsSeq K (wo p H) b xs := by
  cases h with
  | lst h => exact .lst (wo_at h fun e => by rw [e, hp] at h; cases h)
  | tup h => exact .tup (wo_at h fun e => by rw [e, hp] at h; cases h)
  | wr e c h => exact .wr e c h
theorem IsSeq.ty {K : PySem.W.Frag} {H : Hp} {b : Addr} {xs : List V} (h : IsSeq K H b xs) : ∃ n, n ∈ ["NoneType", "bool", "int", "str", "list", "tuple", "dict"] ∧ seqV n = true ∧ ∀ H', Same H H' → TyX K H' (.ref b) (.type n) := by
  cases h with
  | lst h => exact ⟨"list", by decide, rfl, fun H' s => .base (.lst (s _ _ h))⟩
  | tup h => exact ⟨"tuple", by decide, rfl, fun H' s => .base (.tup (s _ _ h))⟩
  | wr e c h => exact ⟨"tuple", by decide, rfl, fun H' s => .kTuple e c⟩
theorem Kd.off {H : Hp} {x : V} {n : String} {p C dx : Addr} {fs : List (Str × V)} (h : Kd H x n) (hp : H p = some (.ins C dx fs)) : Kd (wo p H) x n := by
  cases h with
  | non => exact .non
  | bl b => exact .bl b
  | int i => exact .int i
  | str z => exact .str z
  | lst a xs h => exact .lst a xs (wo_at h fun e => by rw [e, hp] at h; cases h)
  | tup a xs h => exact .tup a xs (wo_at h fun e => by rw [e, hp] at h; cases h)
  | dct a xs h => exact .dct a xs (wo_at h fun e => by rw [e, hp] at h; cases h)
theorem Thing.off {H : Hp} {x : V} {n : String} {p C dx : Addr} {fs : List (Str × V)} (h : Thing H x n) (hp : H p = some (.ins C dx fs)) : Thing (wo p H) x n := ⟨h.kd.off hp, h.fine⟩
theorem DeedIs.off {H : Hp} {y : V} {r : Option (List V)} {p C dx : Addr} {fs : List (Str × V)} (h : DeedIs H y r) (hp : H p = some (.ins C dx fs)) : DeedIs (wo p H) y r := by
  cases h with
  | lst h t l => exact .lst (wo_at h fun e => by rw [e, hp] at h; cases h) (fun x m => (t x m).imp fun n q => q.off hp) l
  | tup h t l => exact .tup (wo_at h fun e => by rw [e, hp] at h; cases h) (fun x m => (t x m).imp fun n q => q.off hp) l
  | oth h l => exact .oth (h.off hp) l
/-- a year, as it is told: its deeds -/
inductive YearIs (K : PySem.W.Frag) (H : Hp) : V → Option (List (Option (List V))) → Prop where
  | seq {b : Addr} {xs : List V} {rs : List (Option (List V))} (h : IsSeq K H b xs) (a : Paired (DeedIs H) xs rs) (l : xs.length ≤ 1000001) : YearIs K H (.ref b) (some rs)
  | oth {y : V} {n : String} (h : Kd H y n) (l : seqV n = false) : YearIs K H y none
theorem YearIs.keep {K : PySem.W.Frag} {H H' : Hp} {y : V} {r : Option (List (Option (List V)))} (h : YearIs K H y r) (s : Same H H') : YearIs K H' y r := by
  cases h with
  | seq h a l => exact .seq (h.keep s) (pr_imp a fun _ _ q => q.keep s) l
  | oth h l => exact .oth (h.keep s) l
theorem YearIs.off {K : PySem.W.Frag} {H : Hp} {y : V} {r : Option (List (Option (List V)))} {p C dx : Addr} {fs : List (Str × V)} (h : YearIs K H y r) (hp : H p = some (.ins C dx fs)) : YearIs K (wo p H) y r := by
  cases h with
  | seq h a l => exact .seq (h.off hp) (pr_imp a fun _ _ q => q.off hp) l
  | oth h l => exact .oth (h.off hp) l
/-- years, as they are told -/
inductive YearsIs (K : PySem.W.Frag) (H : Hp) : V → Option (List (Option (List (Option (List V))))) → Prop where
  | seq {b : Addr} {xs : List V} {rs : List (Option (List (Option (List V))))} (h : IsSeq K H b xs) (a : Paired (YearIs K H) xs rs) (l : xs.length ≤ 1000003) : YearsIs K H (.ref b) (some rs)
  | oth {y : V} {n : String} (h : Kd H y n) (l : seqV n = false) : YearsIs K H y none
theorem YearsIs.keep {K : PySem.W.Frag} {H H' : Hp} {y : V} {r : Option (List (Option (List (Option (List V)))))} (h : YearsIs K H y r) (s : Same H H') : YearsIs K H' y r := by
  cases h with
  | seq h a l => exact .seq (h.keep s) (pr_imp a fun _ _ q => q.keep s) l
  | oth h l => exact .oth (h.keep s) l
theorem YearsIs.off {K : PySem.W.Frag} {H : Hp} {y : V} {r : Option (List (Option (List (Option (List V)))))} {p C dx : Addr} {fs : List (Str × V)} (h : YearsIs K H y r) (hp : H p = some (.ins C dx fs)) : YearsIs K (wo p H) y r := by
  cases h with
  | seq h a l => exact .seq (h.off hp) (pr_imp a fun _ _ q => q.off hp) l
  | oth h l => exact .oth (h.off hp) l
/-- whether it is a list or a tuple: what is_sequence wants to know -/
def SeqQ (K : PySem.W.Frag) (H : Hp) (y : V) (b : Bool) : Prop := ∃ n, n ∈ ["NoneType", "bool", "int", "str", "list", "tuple", "dict"] ∧ seqV n = b ∧ ∀ H', Same H H' → TyX K H' y (.type n)
theorem SeqQ.keep {K : PySem.W.Frag} {H H' : Hp} {y : V} {b : Bool} (h : SeqQ K H y b) (s : Same H H') : SeqQ K H' y b := by
  obtain ⟨n, a, e, t⟩ := h
  exact ⟨n, a, e, fun H2 s2 => t H2 (s.trans s2)⟩
theorem YearIs.sq {K : PySem.W.Frag} {H : Hp} {y : V} {r : Option (List (Option (List V)))} (h : YearIs K H y r) : SeqQ K H y r.isSome := by
  cases h with
  | seq h a l =>
    obtain ⟨n, a, b, c⟩ := h.ty
    exact ⟨n, a, b, c⟩
  | oth h l => exact ⟨_, h.kits, l, fun H' s => (h.keep s).ty⟩
theorem YearsIs.sq {K : PySem.W.Frag} {H : Hp} {y : V} {r : Option (List (Option (List (Option (List V)))))} (h : YearsIs K H y r) : SeqQ K H y r.isSome := by
  cases h with
  | seq h a l =>
    obtain ⟨n, a, b, c⟩ := h.ty
    exact ⟨n, a, b, c⟩
  | oth h l => exact ⟨_, h.kits, l, fun H' s => (h.keep s).ty⟩
/-- the first wrong deed -/
def scanD (ks : List (Str × Int)) : Nat → List (Option (List V)) → Option (Nat × Str)
  | _, [] => none
  | j, r :: rs => match deedWord ks r with
    | some w => some (j, w)
    | none => scanD ks (j + 1) rs
def yearWord (ks : List (Str × Int)) : Option (List (Option (List V))) → Option (Nat × Str)
  | none => some (0, "year")
  | some rs => scanD ks 0 rs
def scanY (ks : List (Str × Int)) : Nat → List (Option (List (Option (List V)))) → Option (Nat × Nat × Str)
  | _, [] => none
  | i, r :: rs => match yearWord ks r with
    | some (j, w) => some (i, j, w)
    | none => scanY ks (i + 1) rs
def lenY : Option (List (Option (List V))) → Nat
  | none => 0
  | some l => l.length
def countD (rs : List (Option (List (Option (List V))))) : Nat := (rs.map lenY).sum
def tooMany (rs : List (Option (List (Option (List V))))) : Bool := decide (1000000 < rs.length) || decide (1000000 < countD rs)
def yearsDue (ks : List (Str × Int)) : Option (List (Option (List (Option (List V))))) → Option (Nat × Nat × Str)
  | none => some (0, 0, "years")
  | some rs => if tooMany rs = true then some (0, 0, "many") else scanY ks 0 rs
theorem scanD_step {ks : List (Str × Int)} {rs : List (Option (List V))} {j : Nat} {r : Option (List V)} (h : rs[j]? = some r) (n : Nat) : scanD ks n (rs.drop j) = match deedWord ks r with | some w => some (n, w) | none => scanD ks (n + 1) (rs.drop (j + 1)) := by
  obtain ⟨lt, e⟩ := List.getElem?_eq_some_iff.mp h
  rw [List.drop_eq_getElem_cons lt, e]
  rfl
theorem scanY_step {ks : List (Str × Int)} {rs : List (Option (List (Option (List V))))} {j : Nat} {r : Option (List (Option (List V)))} (h : rs[j]? = some r) (n : Nat) : scanY ks n (rs.drop j) = match yearWord ks r with | some (i, w) => some (n, i, w) | none => scanY ks (n + 1) (rs.drop (j + 1)) := by
  obtain ⟨lt, e⟩ := List.getElem?_eq_some_iff.mp h
  rw [List.drop_eq_getElem_cons lt, e]
  rfl
theorem deedWord_none {ks : List (Str × Int)} {r : Option (List V)} (h : deedWord ks r = none) : ∃ zs : List Str, r = some (zs.map V.str) := by
  cases r with
  | none => cases h
  | some l =>
    cases l with
    | nil => cases h
    | cons x xs =>
      have h : (match kNum ks x with | none => some (Str.ofString "kind") | some k => if ((xs.length : Nat) : Int) = k then (if xs.all labV then none else some (Str.ofString "person")) else some (Str.ofString "arity")) = none := h
      cases e : kNum ks x with
      | none => rw [e] at h; cases h
      | some k =>
        rw [e] at h
        have h : (if ((xs.length : Nat) : Int) = k then (if xs.all labV then none else some (Str.ofString "person")) else some (Str.ofString "arity")) = none := h
        by_cases h1 : ((xs.length : Nat) : Int) = k
        · rw [if_pos h1] at h
          by_cases h2 : xs.all labV = true
          · obtain ⟨z, rfl⟩ : ∃ z, x = .str z := by
              cases x with
              | str z => exact ⟨z, rfl⟩
              | _ => cases e
            have all : ∀ ys : List V, ys.all labV = true → ∃ zs : List Str, ys = zs.map V.str := by
              intro ys
              induction ys with
              | nil => intro _; exact ⟨[], rfl⟩
              | cons y ys ih =>
                intro q
                rw [List.all_cons, Bool.and_eq_true] at q
                obtain ⟨z, rfl, _⟩ := lab_str q.1
                obtain ⟨zs, rfl⟩ := ih q.2
                exact ⟨z :: zs, rfl⟩
            obtain ⟨zs, rfl⟩ := all xs h2
            exact ⟨z :: zs, rfl⟩
          · rw [if_neg h2] at h; cases h
        · rw [if_neg h1] at h; cases h
/-- deeds as things told -/
def dR (ds : List (List Str)) : List (Option (List V)) := ds.map fun d => some (d.map V.str)
def yR (ys : List (List (List Str))) : List (Option (List (Option (List V)))) := ys.map fun y => some (dR y)
theorem scanD_none {ks : List (Str × Int)} : ∀ {rs : List (Option (List V))} {j : Nat}, scanD ks j rs = none → ∃ ds, rs = dR ds
  | [], _, _ => ⟨[], rfl⟩
  | r :: rs, j, h => by
    have h : (match deedWord ks r with | some w => some (j, w) | none => scanD ks (j + 1) rs) = none := h
    cases e : deedWord ks r with
    | some w => rw [e] at h; cases h
    | none =>
      rw [e] at h
      have h5 : scanD ks (j + 1) rs = none := h
      obtain ⟨zs, rfl⟩ := deedWord_none e
      obtain ⟨ds, rfl⟩ := scanD_none h5
      exact ⟨zs :: ds, rfl⟩
theorem yearWord_none {ks : List (Str × Int)} {r : Option (List (Option (List V)))} (h : yearWord ks r = none) : ∃ ds, r = some (dR ds) := by
  cases r with
  | none => cases h
  | some rs =>
    obtain ⟨ds, rfl⟩ := scanD_none (rs := rs) h
    exact ⟨ds, rfl⟩
theorem scanY_none {ks : List (Str × Int)} : ∀ {rs : List (Option (List (Option (List V))))} {j : Nat}, scanY ks j rs = none → ∃ ys, rs = yR ys
  | [], _, _ => ⟨[], rfl⟩
  | r :: rs, j, h => by
    have h : (match yearWord ks r with | some (i, w) => some (j, i, w) | none => scanY ks (j + 1) rs) = none := h
    cases e : yearWord ks r with
    | some w => rw [e] at h; obtain ⟨i, w⟩ := w; cases h
    | none =>
      rw [e] at h
      have h5 : scanY ks (j + 1) rs = none := h
      obtain ⟨ds, rfl⟩ := yearWord_none e
      obtain ⟨ys, rfl⟩ := scanY_none h5
      exact ⟨ds :: ys, rfl⟩
/-! what stands: texts, deeds, years, in lists or in tuples -/
def Ss (mk : List V → HO) (H : Hp) (x : V) (zs : List Str) : Prop := ∃ a, x = .ref a ∧ H a = some (mk (zs.map V.str))
def Ds (mk : List V → HO) (H : Hp) (x : V) (ds : List (List Str)) : Prop := ∃ a xs, x = .ref a ∧ H a = some (mk xs) ∧ Paired (Ss mk H) xs ds
def Ys (mk : List V → HO) (H : Hp) (x : V) (ys : List (List (List Str))) : Prop := ∃ a xs, x = .ref a ∧ H a = some (mk xs) ∧ Paired (Ds mk H) xs ys
theorem Ss.keep {mk : List V → HO} {H H' : Hp} {x : V} {zs : List Str} (h : Ss mk H x zs) (s : Same H H') : Ss mk H' x zs := by
  obtain ⟨a, e, h⟩ := h
  exact ⟨a, e, s _ _ h⟩
theorem Ds.keep {mk : List V → HO} {H H' : Hp} {x : V} {ds : List (List Str)} (h : Ds mk H x ds) (s : Same H H') : Ds mk H' x ds := by
  obtain ⟨a, xs, e, h, p⟩ := h
  exact ⟨a, xs, e, s _ _ h, pr_imp p fun _ _ q => q.keep s⟩
theorem Ys.keep {mk : List V → HO} {H H' : Hp} {x : V} {ys : List (List (List Str))} (h : Ys mk H x ys) (s : Same H H') : Ys mk H' x ys := by
  obtain ⟨a, xs, e, h, p⟩ := h
  exact ⟨a, xs, e, s _ _ h, pr_imp p fun _ _ q => q.keep s⟩
def hFs (k y : Addr) : List (Str × V) := putF "years" (.ref y) (putF "kinds" (.ref k) [])
theorem s_ky : ¬ (Str.ofString "kinds") = Str.ofString "years" := by decide +kernel
theorem hFs_k (k y : Addr) : (hFs k y).lookup ("kinds" : Str) = some (.ref k) := by
  unfold hFs
  rw [lookup_putF, if_neg s_ky, lookup_putF, if_pos rfl]
theorem hFs_y (k y : Addr) : (hFs k y).lookup ("years" : Str) = some (.ref y) := by
  unfold hFs
  rw [lookup_putF, if_pos rfl]
theorem hFs_no (k y : Addr) {m : Str} (h1 : ¬ m = Str.ofString "kinds") (h2 : ¬ m = Str.ofString "years") : (hFs k y).lookup m = none := by
  unfold hFs
  rw [lookup_putF, if_neg h2, lookup_putF, if_neg h1]
  rfl
/-- a History stands at p -/
structure HistAt (C CK : Addr) (H : Hp) (p : Addr) (ks : List (Str × Int)) (ys : List (List (List Str))) : Prop where
  ex : ∃ (dx kp yt : Addr), H p = some (.ins C dx (hFs kp yt)) ∧ KindsAt CK H kp (vv ks) ∧ Ys .tup H (.ref yt) ys
theorem HistAt.ob {C CK : Addr} {H : Hp} {p : Addr} {ks : List (Str × Int)} {ys : List (List (List Str))} (h : HistAt C CK H p ks ys) : ∃ (dx : Addr) (fs : List (Str × V)) (kp yt : Addr), H p = some (.ins C dx fs) ∧ fs.lookup ("kinds" : Str) = some (.ref kp) ∧ fs.lookup ("years" : Str) = some (.ref yt) ∧
    (∀ m : Str, ¬ m = Str.ofString "kinds" → ¬ m = Str.ofString "years" → fs.lookup m = none) ∧ KindsAt CK H kp (vv ks) ∧ Ys .tup H (.ref yt) ys := by
  obtain ⟨dx, kp, yt, h1, h2, h3⟩ := h.ex
  exact ⟨dx, _, kp, yt, h1, hFs_k kp yt, hFs_y kp yt, fun m a b => hFs_no kp yt a b, h2, h3⟩
theorem HistAt.keep {C CK : Addr} {H H' : Hp} {p : Addr} {ks : List (Str × Int)} {ys : List (List (List Str))} (h : HistAt C CK H p ks ys) (s : Same H H') : HistAt C CK H' p ks ys := by
  obtain ⟨dx, kp, yt, h1, h2, h3⟩ := h.ex
  exact ⟨dx, kp, yt, s _ _ h1, h2.keep s, h3.keep s⟩
theorem KindsAt.off {C : Addr} {H : Hp} {p k : Addr} {ps : List (Str × V)} {D dx : Addr} {fs : List (Str × V)} (h : KindsAt C H k ps) (hp : H p = some (.ins D dx fs)) (ne : k ≠ p) : KindsAt C (wo p H) k ps := by
  obtain ⟨dx, fs, r, n, d, ts, h1, h2, h3, h4, h5, h6, h7, h8, h9, h10⟩ := h.ob
  have o : ∀ {b : Addr} {u : HO}, H b = some u → (∀ C dx fs, u ≠ .ins C dx fs) → wo p H b = some u := fun e n => wo_at e fun z => by
    rw [z, hp] at e
    exact n _ _ _ (Option.some.inj e).symm
  exact ⟨dx, fs, r, n, d, ts, wo_at h1 ne, h2, h3, h4, h5, o h6 (fun _ _ _ z => nomatch z), h7, (fun i t q e1 e2 => o (h8 i t q e1 e2) (fun _ _ _ z => nomatch z)), o h9 (fun _ _ _ z => nomatch z), o h10 (fun _ _ _ z => nomatch z)⟩
end Kx

set_option maxHeartbeats 4000000
namespace Kx
open PySem PySem.Spec PyProof.Rows L2
/-- what walks a list or a tuple -/
def iSeq (K : PySem.W.Frag) (tl : TE) : TI := fun σ H R => tl σ H fun x H1 => ∃ a, x = .ref a ∧ (((∃ xs, SqL K H1 a xs) ∧ R (Itl K a) H1) ∨ ((∃ xs, SqT K H1 a xs) ∧ R (Itt K a) H1))
theorem pi_seq {X : Cx} {tg l : Expr} {tl : TE} (hl : PE X l tl) : PI X tg l (iSeq X.K tl) := by
  refine ⟨fun pins s σ H R I h => ?_⟩
  refine thn (hl.run pins s σ H _ I h) fun v s1 ⟨x, H1, I1, r1, q1⟩ => ?_
  obtain ⟨a, e, q⟩ := q1
  subst e
  cases r1
  have at_ : ∀ b ∈ [s1.heap.objs.size], FpOk X pins H1 b := fun b hb => by
    obtain rfl : b = s1.heap.objs.size := by simpa using hb
    exact I1.fpOk (Nat.le_refl _) (I1.hok.fresh (Nat.le_refl _))
  rcases q with ⟨⟨xs, hq⟩, q⟩ | ⟨⟨xs, hq⟩, q⟩
  · obtain ⟨its, rv, p, hz⟩ := I1.list hq
    exact wpAny_pyIter_list p.isList ⟨s1.heap.objs.size, [s1.heap.objs.size], _, _, H1, rfl, I1.kept (t' := s1.toks) fun b o e => Heap.get?_push_of_some _ e, turn_list a _, ⟨_, Heap.get?_push_size _ rfl, rfl, rfl⟩, at_, q⟩
  · obtain ⟨its, rv, p, hz⟩ := I1.tuple hq
    exact wpAny_pyIter_tuple (show s1.heap.IsTuple a its.toArray from p) ⟨s1.heap.objs.size, [s1.heap.objs.size], _, _, H1, rfl, I1.kept (t' := s1.toks) fun b o e => Heap.get?_push_of_some _ e, turn_tuple a _, ⟨_, Heap.get?_push_size _ rfl, rfl, rfl⟩, at_, q⟩
theorem IsSeq.both {K : PySem.W.Frag} {H : Hp} {b : Addr} {xs : List V} (h : IsSeq K H b xs) : (∀ H', Same H H' → SqL K H' b xs) ∨ (∀ H', Same H H' → SqT K H' b xs) := by
  cases h with
  | lst h => exact .inl fun H' s => SqL.of (s _ _ h)
  | tup h => exact .inr fun H' s => SqT.of (s _ _ h)
  | wr e c h => exact .inr fun H' s => h H'
/-- a for over such, all but the new standing still -/
theorem for_sq {K : PySem.W.Frag} {a : Addr} {xs : List V} {g : TG} {tb : TS} {D : Ends} {σ : L2.St} {H0 H : Hp} (q : IsSeq K H0 a xs) (Pv : Nat → L2.St → Hp → Prop) (h0 : Pv 0 σ H) (still : ∀ i σ H, Pv i σ H → Same H0 H)
    (hs : ∀ i x σ H, xs[i]? = some x → Pv i σ H → g x σ H fun σ2 H2 => tb { D with nx := Pv (i + 1), ct := Pv (i + 1), bk := D.nx } σ2 H2) (hd : ∀ σ H, Pv xs.length σ H → D.nx σ H) :
    ((∃ xs, SqL K H a xs) ∧ ∃ W : Nat → Nat → L2.St → Hp → Prop, (∃ m, W 0 m σ H) ∧ ∀ i m σ H, W i m σ H →
      ((Itl K a).stop i H ∧ D.nx σ H) ∨ ((Itl K a).go i H ∧ ∃ N : L2.St → Hp → Prop, (∀ σ' H', N σ' H' → ∃ m', m' < m ∧ W (i + 1) m' σ' H') ∧ ∀ x H', (Itl K a).yld i H x H' → g x σ H' fun σ2 H2 => tb { D with nx := N, ct := N, bk := D.nx } σ2 H2)) ∨
    ((∃ xs, SqT K H a xs) ∧ ∃ W : Nat → Nat → L2.St → Hp → Prop, (∃ m, W 0 m σ H) ∧ ∀ i m σ H, W i m σ H →
      ((Itt K a).stop i H ∧ D.nx σ H) ∨ ((Itt K a).go i H ∧ ∃ N : L2.St → Hp → Prop, (∀ σ' H', N σ' H' → ∃ m', m' < m ∧ W (i + 1) m' σ' H') ∧ ∀ x H', (Itt K a).yld i H x H' → g x σ H' fun σ2 H2 => tb { D with nx := N, ct := N, bk := D.nx } σ2 H2)) := by
  rcases q.both with q | q
  · exact .inl ⟨⟨xs, q _ (still _ _ _ h0)⟩, for_list Pv h0 (fun i σ H _ p => q _ (still _ _ _ p)) hs hd⟩
  · exact .inr ⟨⟨xs, q _ (still _ _ _ h0)⟩, for_tup Pv h0 (fun i σ H _ p => q _ (still _ _ _ p)) hs hd⟩
/-- what a comprehension over such is to show -/
def LcB (K : PySem.W.Frag) (a : Addr) (g : TG) (tt : TT) (te : TE) (vs : List Nat) (σ : L2.St) (H1 : Hp) (Qd : Addr → Hp → Prop) : Prop :=
  ((∃ xs, SqL K H1 a xs) ∧ ∀ D, H1 D = none → ∃ W : Nat → Nat → Hp → Prop, (∃ m, W 0 m (upd H1 D (.lst []))) ∧ ∀ i m H, W i m H → ((Itl K a).stop i H ∧ Qd D H) ∨ ((Itl K a).go i H ∧ ∃ Nx : Hp → Prop, (∀ H', Nx H' → ∃ m', m' < m ∧ W (i + 1) m' H') ∧
      ∀ x H', (Itl K a).yld i H x H' → g x (wipe σ vs) H' fun σ2 H2 => wipe σ2 vs = wipe σ vs ∧ tt σ2 H2 fun b H3 => if b = true then te σ2 H3 fun y H4 => ∃ acc, H4 D = some (.lst acc) ∧ acc.length < sizeLine ∧ Nx (upd H4 D (.lst (acc ++ [y]))) else Nx H3)) ∨
  ((∃ xs, SqT K H1 a xs) ∧ ∀ D, H1 D = none → ∃ W : Nat → Nat → Hp → Prop, (∃ m, W 0 m (upd H1 D (.lst []))) ∧ ∀ i m H, W i m H → ((Itt K a).stop i H ∧ Qd D H) ∨ ((Itt K a).go i H ∧ ∃ Nx : Hp → Prop, (∀ H', Nx H' → ∃ m', m' < m ∧ W (i + 1) m' H') ∧
      ∀ x H', (Itt K a).yld i H x H' → g x (wipe σ vs) H' fun σ2 H2 => wipe σ2 vs = wipe σ vs ∧ tt σ2 H2 fun b H3 => if b = true then te σ2 H3 fun y H4 => ∃ acc, H4 D = some (.lst acc) ∧ acc.length < sizeLine ∧ Nx (upd H4 D (.lst (acc ++ [y]))) else Nx H3))
theorem lc_sq {K : PySem.W.Frag} {a : Addr} {xs : List V} {g : TG} {tt : TT} {te : TE} {vs : List Nat} {σ : L2.St} {H0 H1 : Hp} {Qd : Addr → Hp → Prop} (q : IsSeq K H0 a xs) (s0 : Same H0 H1)
    (body : ∀ D, H1 D = none → ∃ Pv : Nat → Hp → Prop, Pv 0 (upd H1 D (.lst [])) ∧ (∀ i H, Pv i H → Same H0 H) ∧ (∀ i x H, xs[i]? = some x → Pv i H → g x (wipe σ vs) H fun σ2 H2 => wipe σ2 vs = wipe σ vs ∧ tt σ2 H2 fun b H3 =>
      if b = true then te σ2 H3 fun y H4 => ∃ acc, H4 D = some (.lst acc) ∧ acc.length < sizeLine ∧ Pv (i + 1) (upd H4 D (.lst (acc ++ [y]))) else Pv (i + 1) H3) ∧ ∀ H, Pv xs.length H → Qd D H) : LcB K a g tt te vs σ H1 Qd := by
  rcases q.both with q | q
  · exact .inl ⟨⟨xs, q _ s0⟩, fun D hD => by
      obtain ⟨Pv, p0, st, tu, af⟩ := body D hD
      exact lc_list (K := K) (a := a) (xs := xs) Pv p0 (fun i H _ p => q _ (st i H p)) tu af⟩
  · exact .inr ⟨⟨xs, q _ s0⟩, fun D hD => by
      obtain ⟨Pv, p0, st, tu, af⟩ := body D hD
      exact lc_tup (K := K) (a := a) (xs := xs) Pv p0 (fun i H _ p => q _ (st i H p)) tu af⟩
theorem woD {H1 H H4 : Hp} {D : Addr} {o : HO} (h : H1 D = none) (s : Same H1 H) (s4 : Same H H4) : Same H1 (upd H4 D o) := fun b u e => by
  rw [upd_ne (ne_of_none e h)]
  exact s4 b u (s b u e)
theorem woU {H H4 : Hp} {D : Addr} {o : HO} (s4 : Same H H4) : Same (wo D H) (wo D (upd H4 D o)) := wo_keep fun b u e n => by
  rw [upd_ne n]
  exact s4 b u e
/-- a comprehension without tests whose step makes y of x, G telling how (of all but the new list), the old things standing still -/
theorem lc_pure {K : PySem.W.Frag} {a : Addr} {xs : List V} {g : TG} {te : TE} {vs : List Nat} {σ : L2.St} {H0 H1 : Hp} {Qd : Addr → Hp → Prop} (G : Nat → V → Hp → Prop) (keep : ∀ i y H H', G i y H → Same H H' → G i y H') (q : IsSeq K H0 a xs) (s0 : Same H0 H1) (hz : xs.length ≤ 2000000)
    (step : ∀ D i x H (k : V → Hp → Prop), xs[i]? = some x → H1 D = none → Same H1 H → (∃ acc, H D = some (.lst acc)) → (∀ y H4, Same H H4 → G i y (wo D H4) → k y H4) → g x (wipe σ vs) H fun σ2 H2 => wipe σ2 vs = wipe σ vs ∧ te σ2 H2 k)
    (after : ∀ D ys H, H1 D = none → Same H1 H → H D = some (.lst ys) → ys.length = xs.length → (∀ i y, ys[i]? = some y → G i y (wo D H)) → Qd D H) (gm : ∀ x σ H (Q Q' : L2.St → Hp → Prop), (∀ σ H, Q σ H → Q' σ H) → g x σ H Q → g x σ H Q') : LcB K a g tYes te vs σ H1 Qd := by
  refine lc_sq q s0 fun D hD => ⟨fun i H => Same H1 H ∧ ∃ acc, H D = some (.lst acc) ∧ acc.length = i ∧ i ≤ xs.length ∧ ∀ j y, acc[j]? = some y → G j y (wo D H), ⟨sameUpd (Same.refl _) hD, [], upd_same, rfl, Nat.zero_le _, fun j y e => by cases e⟩, fun i H p => s0.trans p.1, ?_, ?_⟩
  · rintro i x H hi ⟨s1, acc, hd, al, _, ha⟩
    have lt : i < xs.length := (List.getElem?_eq_some_iff.mp hi).1
    refine gm _ _ _ _ _ (fun σ2 H2 z => ⟨z.1, ?_⟩) (step D i x H (fun y H4 => ∃ acc, H4 D = some (.lst acc) ∧ acc.length < sizeLine ∧ (Same H1 (upd H4 D (.lst (acc ++ [y]))) ∧ ∃ acc', upd H4 D (.lst (acc ++ [y])) D = some (.lst acc') ∧ acc'.length = i + 1 ∧ i + 1 ≤ xs.length ∧ ∀ j y', acc'[j]? = some y' → G j y' (wo D (upd H4 D (.lst (acc ++ [y])))))) hi hD s1 ⟨acc, hd⟩ fun y H4 s4 gy => ?_)
    · unfold tYes
      dsimp only
      rw [if_pos rfl]
      exact z.2
    · refine ⟨acc, s4 _ _ hd, line2 (by omega), woD hD s1 s4, acc ++ [y], upd_same, by simp [al], lt, fun j y' e => ?_⟩
      by_cases lj : j < acc.length
      · rw [List.getElem?_append_left lj] at e
        exact keep _ _ _ _ (ha j y' e) (woU s4)
      · have ej : j = i := by
          have := (List.getElem?_eq_some_iff.mp e).1
          simp at this
          omega
        subst ej
        rw [List.getElem?_append_right (by omega), al, Nat.sub_self] at e
        cases e
        exact keep _ _ _ _ gy (woU (Same.refl _))
  · rintro H ⟨s1, acc, hd, al, _, ha⟩
    exact after D acc H hD s1 hd al ha
end Kx

set_option maxHeartbeats 4000000
namespace Kx
open PySem L2
theorem call_lenK {X : Cx} {K : PySem.W.Frag} (h : X.K = K) : CallR X (.builtin "len") (fun xs H Q => ∃ p ys, xs = [.ref p] ∧ (SqL K H p ys ∨ SqT K H p ys) ∧ Q (.int ys.length) H) := by
  subst h
  exact call_len_seq
def spSeqK (K : PySem.W.Frag) : Sp := fun vs H Q _ => ∃ (x : V) (b : Bool), vs = [x] ∧ SeqQ K H x b ∧ ∀ H', Same H H' → Q (.bl b) H'
structure Hm (mg : Str → Option Value) : Prop where
  years : ∃ t, mg "MOST_YEARS" = some (.int 1000000 t)
  deeds : ∃ t, mg "MOST_DEEDS" = some (.int 1000000 t)
  sum : mg "sum" = none
def spLong (K : PySem.W.Frag) : Sp := fun vs H Q _ => ∃ (b : Addr) (xs : List V) (rs : List (Option (List (Option (List V))))), vs = [.ref b] ∧ IsSeq K H b xs ∧ Paired (YearIs K H) xs rs ∧ xs.length ≤ 1000003 ∧ ∀ H', Same H H' → Q (.bl (tooMany rs)) H'
def lensY (rs : List (Option (List (Option (List V))))) : List Int := rs.flatMap fun r => match r with
  | none => []
  | some l => [(l.length : Int)]
theorem lensY_sum : ∀ rs : List (Option (List (Option (List V)))), (lensY rs).sum = (countD rs : Nat)
  | [] => rfl
  | none :: rs => by
    have ih := lensY_sum rs
    have e : countD (none :: rs) = countD rs := by simp [countD, lenY]
    have e2 : lensY (none :: rs) = lensY rs := by simp [lensY]
    rw [e, e2, ih]
  | some l :: rs => by
    have ih := lensY_sum rs
    have e : countD (some l :: rs) = l.length + countD rs := by simp [countD, lenY]
    have e2 : lensY (some l :: rs) = (l.length : Int) :: lensY rs := by simp [lensY]
    rw [e, e2, List.sum_cons, ih]
    omega
theorem lensY_len : ∀ rs : List (Option (List (Option (List V)))), (lensY rs).length ≤ rs.length
  | [] => Nat.le_refl _
  | none :: rs => by
    have ih := lensY_len rs
    have e2 : lensY (none :: rs) = lensY rs := by simp [lensY]
    rw [e2, List.length_cons]
    omega
  | some l :: rs => by
    have ih := lensY_len rs
    have e2 : lensY (some l :: rs) = (l.length : Int) :: lensY rs := by simp [lensY]
    rw [e2, List.length_cons, List.length_cons]
    omega
theorem lensY_step {rs : List (Option (List (Option (List V))))} {i : Nat} {r : Option (List (Option (List V)))} (h : rs[i]? = some r) : lensY (rs.take (i + 1)) = lensY (rs.take i) ++ lensY [r] := by
  unfold lensY
  rw [take_succ_of h, List.flatMap_append]
section
variable {P : Program} {w : World} {K : PySem.W.Frag} {mg : Str → Option Value} {base : Heap}
theorem ok_seqK {f : Addr} {fd : FuncData} (F : Fun K "is_sequence" "is_sequence" sSeq f fd) (m : mg "is_sequence" = some (.ref f)) (B : Bm mg) : HasF P w K mg base "is_sequence" 1 ["thing"] (spSeqK K) := by
  refine ⟨f, fd, ?_, m, F.kp, F.binds fun _ _ _ _ _ _ us hl => match us, hl with | [_], _ => rfl⟩
  refine F.ok scSeq (fun vs H Q E h => ?_) (fun cdv A outer s H vs Q E hr h => ?_)
  · obtain ⟨a, b, rfl, _⟩ := h
    rfl
  · obtain ⟨x, b, rfl, ⟨n, hn, hb, ht⟩, k⟩ := h
    refine ⟨_, pss_one (ps_ret (pe_callB call_isiT (by rfl) B.isinstance (by decide +kernel) (pa_cons (pv 0) (pa_cons (pe_tup (pa_cons (pe_bltn (v := .ty "list") (by rfl) B.list (by decide +kernel) rfl) (pa_cons (pe_bltn (v := .ty "tuple") (by rfl) B.tuple (by decide +kernel) rfl) pa_nil))) pa_nil)))), ?_⟩
    refine ⟨_, rfl, by decide, fun t ht' => ?_⟩
    have s1 := sameUpd (o := .tup [.ty "list", .ty "tuple"]) (Same.refl H) ht'
    refine ⟨x, t, _, _, _, _, rfl, upd_same, .cons (.ty _) (.cons (.ty _) .nil), ht _ s1, kit_seq hn, ?_⟩
    rw [hb]
    exact k _ s1
theorem scLong : FnScope ["years", "year"] ["years"] (defScope sIsTooLong) := ⟨rfl, rfl, rfl, by decide +kernel, rfl, by decide +kernel, by decide +kernel⟩
theorem ok_long {f : Addr} {fd : FuncData} (F : Fun K "_is_too_long" "_is_too_long" sIsTooLong f fd) (m : mg "_is_too_long" = some (.ref f)) (T : Bl mg) (M : Hm mg) (Sq : HasF P w K mg base "is_sequence" 1 ["thing"] (spSeqK K)) : HasF P w K mg base "_is_too_long" 2 ["years"] (spLong K) := by
  refine ⟨f, fd, ?_, m, F.kp, F.binds fun _ _ _ _ _ _ us hl => match us, hl with | [_], _ => rfl⟩
  obtain ⟨f1, fd1, Sq⟩ := Sq
  obtain ⟨tY, mY⟩ := M.years; obtain ⟨tD, mD⟩ := M.deeds
  refine F.ok scLong (fun vs H Q E h => ?_) (fun cdv A outer s H vs Q E hr h => ?_)
  · obtain ⟨a, b, c, rfl, _⟩ := h
    rfl
  · obtain ⟨b, xs, rs, rfl, hq, hy, hz, k⟩ := h
    have lx := Paired.length hy
    refine ⟨_, (pss_cons (ps_if (pt_cmpR op_gt (pe_callB call_len_seq (by rfl) T.len PySem.boot_len (pa_cons (pv 0) pa_nil)) (pe_glob (v := .int 1000000) rfl mY ⟨_, rfl⟩) (nomark _)) (pss_one (ps_ret pe_bl)) pss_nil)
    (pss_one (ps_ret (pe_cmpR op_gt (pe_callB (cr_sum rfl) (by rfl) M.sum (by decide +kernel) (pa_cons (pe_lc (own := [("year", 1)]) (g := gName 1) (by rfl) scLong.nd (pi_seq (pv 0)) (blkOk_by (own := [("year", 1)]) (N := ["years", "year"]) (sc := defScope sIsTooLong) (by decide +kernel))
          (fun _ _ _ _ _ => pg_name (i := 1) scLong.nd rfl (Or.inl rfl)) (fun _ _ _ _ _ => pts_one (pt_val (pe_call Sq.G hr (by rfl) Sq.m Sq.kp Sq.b .nil pass0 (pa_cons (pv 1) pa_nil)))) (fun _ _ _ _ _ => (pe_callB (call_lenK (K := K) rfl) (by rfl) T.len PySem.boot_len (pa_cons (pv 1) pa_nil)))) pa_nil)) (pe_glob (v := .int 1000000) rfl mD ⟨_, rfl⟩) (nomark _))))), ?_⟩
    refine ⟨_, rfl, b, xs, rfl, hq.sq, _, _, rfl, rfl, _, rfl, ?_⟩
    refine ite2 (fun h1 => ?_) (fun h1 => ?_)
    · have h1 := of_decide_eq_true h1
      have q := k _ (Same.refl _)
      have e : tooMany rs = true := by
        unfold tooMany
        rw [decide_eq_true (show 1000000 < rs.length by omega)]
        rfl
      rw [e] at q
      exact q
    · have h1 : ¬ (1000000 : Int) < ((xs.length : Nat) : Int) := fun e => h1 (decide_eq_true e)
      refine ⟨_, rfl, b, rfl, lc_sq (g := gName 1) hq (Same.refl _) fun D hD => ⟨fun i H3 => Same H H3 ∧ H3 D = some (.lst ((lensY (rs.take i)).map V.int)), ⟨sameUpd (Same.refl _) hD, upd_same⟩, fun i H3 p => p.1, ?_, ?_⟩⟩
      · rintro i x H3 hi ⟨s3, hd⟩
        obtain ⟨r, hr', hyr⟩ := pr_get hy hi
        have t := lensY_step hr'
        have yr3 := hyr.keep s3
        refine ⟨rfl, _, rfl, x, r.isSome, rfl, yr3.sq, fun H4 s4 => ⟨_, rfl, ?_⟩⟩
        have yr4 := yr3.keep s4
        cases yr4 with
        | oth h l =>
          refine (if_neg (by decide)).mpr ⟨s3.trans s4, ?_⟩
          rw [t]
          refine (s4 _ _ hd).trans ?_
          simp [lensY]
        | seq h a l =>
          rename_i b' ys ls
          refine (if_pos rfl).mpr ⟨_, rfl, b', ys, rfl, h.sq, _, s4 _ _ hd, line2 ?_, ?_, ?_⟩
          · rw [List.length_map]
            have := lensY_len (rs.take i)
            rw [List.length_take] at this
            omega
          · exact woD hD s3 s4
          · rw [upd_same, t]
            simp [lensY, Paired.length a]
      · rintro H3 ⟨s3, hd⟩
        rw [List.take_of_length_le (by omega)] at hd
        refine ⟨D, lensY rs, rfl, SqL.of hd, _, _, rfl, rfl, ?_⟩
        have q := k _ s3
        have e : tooMany rs = decide ((1000000 : Int) < (lensY rs).sum) := by
          unfold tooMany
          rw [decide_eq_false (show ¬ 1000000 < rs.length by omega), Bool.false_or, lensY_sum]
          by_cases z : 1000000 < countD rs
          · rw [decide_eq_true z, decide_eq_true (show (1000000 : Int) < (countD rs : Nat) by omega)]
          · rw [decide_eq_false z, decide_eq_false (show ¬ (1000000 : Int) < (countD rs : Nat) by omega)]
        rw [e] at q
        exact q
end
end Kx

set_option maxHeartbeats 4000000
namespace Kx
open PySem L2
theorem pr_of {α β : Type} {F : α → β → Prop} : ∀ {xs : List α} {ys : List β}, xs.length = ys.length → (∀ (i : Nat) (x : α) (y : β), xs[i]? = some x → ys[i]? = some y → F x y) → Paired F xs ys
  | [], [], _, _ => .nil
  | [], _ :: _, e, _ => by cases e
  | _ :: _, [], e, _ => by cases e
  | _ :: _, _ :: _, e, f => .cons (f 0 _ _ rfl rfl) (pr_of (Nat.succ.inj e) fun i x y e1 e2 => f (i + 1) x y e1 e2)
theorem call_tupK {X : Cx} {K : PySem.W.Frag} (h : X.K = K) : CallR X (.type "tuple") (fun xs H Q => ∃ p ys, xs = [.ref p] ∧ ((SqL K H p ys ∧ ∀ l, H l = none → Q (.ref l) (upd H l (.tup ys))) ∨ (SqT K H p ys ∧ Q (.ref p) H))) := by
  subst h
  exact call_tuple_of
theorem fin3 {K : PySem.W.Frag} {C : Addr} {f1 f2 f3 : Str} (T : OexC K C) (n1 : PySem.W.findIn K (.ref C) f1 = some none) (n2 : PySem.W.findIn K (.ref C) f2 = some none) (n3 : PySem.W.findIn K (.ref C) f3 = some none) {H : Hp} {x y z : V} {Q : XK} (q : ∀ d H', H d = none → Same H H' → H' d = some (.xd [(f3, z), (f2, y), (f1, x)]) → Q (.ref C) (some d) H') :
    [x, y, z].length ≤ 1000 ∧ ∀ a, H a = none → spInit3 K C f1 f2 f3 (.ref a :: ([x, y, z] ++ [])) (upd H a (exo a C none)) (fun v H2 => v = .non ∧ ∃ (d : Addr) (fs : List (Str × V)), H2 a = some (exo a C (some d)) ∧ H2 d = some (exd d fs) ∧ H d = none ∧ Q (.ref C) (some d) (upd (del H2 a) d (.xd fs))) (fun _ _ _ => False) := by
  refine ⟨(by show 3 ≤ 1000; decide), fun a ha => ⟨a, x, y, z, rfl, T, n1, n2, n3, upd_same, fun d H' hd ne ea ed kp => ⟨rfl, d, _, ea, ed, ?_, ?_⟩⟩⟩
  · rw [upd_ne ne] at hd
    exact hd
  · rw [upd_ne ne] at hd
    refine q d _ hd (fun b o e => ?_) upd_same
    have nba := ne_of_none e ha
    rw [upd_ne (ne_of_none e hd), del_ne nba]
    exact kp b o (by rw [upd_ne nba]; exact e) nba
/-- the fields of a BadHistory -/
def bhF (i j : Int) (w : Str) : List (Str × V) := [("what", .str w), ("index", .int j), ("year", .int i)]
/-- what BadHistory is -/
structure BH (P : Program) (w : World) (K : PySem.W.Frag) (mg : Str → Option Value) (base : Heap) (CB fB : Addr) (fdB : FuncData) : Prop where
  E : ErC P w K mg base "BadHistory" ["self", "year", "index", "what"] CB fB fdB (spInit3 K CB "year" "index" "what")
  n1 : PySem.W.findIn K (.ref CB) "year" = some none
  n2 : PySem.W.findIn K (.ref CB) "index" = some none
  n3 : PySem.W.findIn K (.ref CB) "what" = some none
def kbOk (ks : List (Str × Int)) : Prop := ∀ q ∈ ks, 0 ≤ q.2 ∧ q.2 ≤ 2
def spYearOf (K : PySem.W.Frag) (CK CB : Addr) : Sp := fun vs H Q E => ∃ (kp : Addr) (i : Int) (y : V) (ks : List (Str × Int)) (r : Option (List (Option (List V)))), vs = [.ref kp, .int i, y] ∧ KindsAt CK H kp (vv ks) ∧ kbOk ks ∧ YearIs K H y r ∧
  match yearWord ks r with
  | some (j, w) => ∀ d H', H d = none → Same H H' → H' d = some (.xd (bhF i j w)) → E (.ref CB) (some d) H'
  | none => ∀ x ds H', r = some (dR ds) → Same H H' → Ds .tup H' x ds → Q x H'
section
variable {P : Program} {w : World} {K : PySem.W.Frag} {mg : Str → Option Value} {base : Heap}
abbrev nYearOf : List Str := ["kinds", "index", "year", "place", "deed", "word"]
theorem scYearOf : FnScope nYearOf ["kinds", "index", "year"] (defScope sYearOf) := ⟨rfl, rfl, rfl, by decide +kernel, rfl, by decide +kernel, by decide +kernel⟩
theorem ok_yearof {f CK CB fB gF : Addr} {fd fdB fdF : FuncData} (F : Fun K "_year_of" "_year_of" sYearOf f fd) (m : mg "_year_of" = some (.ref f)) (T : Bl mg) (B : Bm mg) (KX : KC K CK) (Sq : HasF P w K mg base "is_sequence" 1 ["thing"] (spSeqK K))
    (OF : OwnM P w K mg base CK "fault" 2 ["self", "deed"] (spFault CK) gF fdF) (EB : BH P w K mg base CB fB fdB) :
    FnOk P w K mg base (L2.CX P w) 3 f fd ["kinds", "index", "year"] (spYearOf K CK CB) := by
  obtain ⟨f1, fd1, Sq⟩ := Sq
  refine F.okX scYearOf (fun vs H Q E h => ?_) (fun cdv A outer s H vs Q E hr h => ?_)
  · obtain ⟨a, b, c, d, e, rfl, _⟩ := h
    rfl
  · obtain ⟨kp, i0, y, ks, r, rfl, hk, kb, hy, k⟩ := h
    have hr1 : Room 1 _ := hr.mono (by decide)
    refine ⟨_, (pss_cons (ps_if (pt_not (pt_val (pe_call Sq.G hr1 (by rfl) Sq.m Sq.kp Sq.b .nil pass0 (pa_cons (pv 2) pa_nil)))) (pss_one (ps_raise rfl (takes_of rfl rfl rfl rfl) (pmk_oex EB.E.T EB.E.iC EB.E.tI EB.E.G hr EB.E.b .nil pass0 (by rfl) EB.E.gC (pa_cons (pv 1) (pa_cons pe_int (pa_cons pe_str pa_nil)))))) pss_nil)
    (C8.pss_cut (ps_for (passes_of rfl) rfl (pi_enumB (by rfl) T.enumerate (pa_cons (pv 2) pa_nil)) (pg_tup rfl (pgs_cons (pg_name (i := 3) scYearOf.nd rfl (Or.inl rfl)) (pgs_cons (pg_name (i := 4) scYearOf.nd rfl (Or.inl rfl)) pgs_nil)))
        (pss_cons (ps_set (i := 5) scYearOf.nd rfl (Or.inl rfl) (pe_meth (pv 0) KX.cl OF.M OF.G hr OF.b .nil pass0 (pa_cons (pv 4) pa_nil)))
    (pss_one (ps_if (pt_cmpR op_notN (pv 5) pe_non (nomark _)) (pss_one (ps_raise rfl (takes_of rfl rfl rfl rfl) (pmk_oex EB.E.T EB.E.iC EB.E.tI EB.E.G hr EB.E.b .nil pass0 (by rfl) EB.E.gC (pa_cons (pv 1) (pa_cons (pv 3) (pa_cons (pv 5) pa_nil)))))) pss_nil))))
    (pss_one (ps_ret (pe_callTy call_tuple_of (by rfl) B.tuple (by decide +kernel) (pa_cons (pe_lc (own := [("deed", 4)]) (g := gName 4) (tt := tYes) (by rfl) scYearOf.nd (pi_seq (pv 2)) (blkOk_by (own := [("deed", 4)]) (N := nYearOf) (sc := defScope sYearOf) (by decide +kernel))
          (fun _ _ _ _ _ => pg_name (i := 4) scYearOf.nd rfl (Or.inl rfl)) (fun _ _ _ _ _ => pts_nil) (fun _ _ _ _ _ => (pe_callTy (call_tupK (K := K) rfl) (by rfl) B.tuple (by decide +kernel) (pa_cons (pv 4) pa_nil)))) pa_nil)))))), ?_⟩
    refine ⟨_, rfl, y, _, rfl, hy.sq, fun H1 s1 => ⟨_, rfl, ?_⟩⟩
    have hy1 := hy.keep s1
    cases hy1 with
    | oth h l =>
      refine iteT ⟨_, rfl, fin3 EB.E.T EB.n1 EB.n2 EB.n3 fun d H2 hd s2 e2 => k d H2 (s1.free hd) (s1.trans s2) e2⟩
    | seq h a l =>
    rename_i b xs rs
    refine iteF ?_
    have lx := Paired.length a
    have k : match scanD ks 0 rs with
      | some (j, w) => ∀ d H', H d = none → Same H H' → H' d = some (.xd (bhF i0 j w)) → E (.ref CB) (some d) H'
      | none => ∀ x ds H', some rs = some (dR ds) → Same H H' → Ds .tup H' x ds → Q x H' := k
    have hk1 := hk.keep s1
    refine ⟨fun σ H2 => ∃ v3 v4 v5 : Option V, σ = [some (.ref kp), some (.int i0), some (.ref b), v3, v4, v5] ∧ Same H1 H2 ∧ scanD ks 0 rs = none, ?_, ?_⟩
    · refine ⟨_, rfl, b, xs, rfl, for_enumB (K := K) (a := b) (xs := xs) (fun i σ H2 => ∃ v3 v4 v5 : Option V, σ = [some (.ref kp), some (.int i0), some (.ref b), v3, v4, v5] ∧ Same H1 H2 ∧ scanD ks 0 rs = scanD ks i (rs.drop i))
        ⟨none, none, none, rfl, Same.refl _, rfl⟩ ?_ ?_ ?_⟩
      · rcases h.both with h | h
        · exact .inl fun i σ H2 ⟨_, _, _, _, s, _⟩ => h _ s
        · exact .inr fun i σ H2 ⟨_, _, _, _, s, _⟩ => h _ s
      · rintro i x σ H2 t hi ⟨v3, v4, v5, rfl, s2, sc⟩ ht
        have s3 : Same H1 (upd H2 t (.tup [.int (i : Nat), x])) := sameUpd s2 ht
        obtain ⟨r, hr', dx⟩ := pr_get a hi
        rw [scanD_step hr'] at sc
        refine ⟨t, _, rfl, SqT.of upd_same, rfl, _, _, rfl, _, _, rfl, rfl, ?_⟩
        obtain ⟨pdx, pfs, _, _, _, _, g1, _, _, _, g5, _⟩ := (hk1.keep s3).get (K := K)
        refine ⟨_, rfl, kp, pdx, pfs, rfl, g1, g5 _ (by decide +kernel) (by decide +kernel) (by decide +kernel), ?_⟩
        refine ⟨_, rfl, kp, x, r, ks, rfl, hk1.keep s3, dx.keep s3, kb, fun H4 s4 => ?_⟩
        have s5 : Same H1 H4 := s3.trans s4
        cases e : deedWord ks r with
        | some w' =>
          rw [e] at sc
          rw [sc] at k
          refine ⟨_, rfl, rfl, _, rfl, iteT ?_⟩
          exact ⟨_, rfl, _, rfl, _, rfl, fin3 EB.E.T EB.n1 EB.n2 EB.n3 fun d H5 hd s6 e6 => k d H5 ((s1.trans s5).free hd) ((s1.trans s5).trans s6) e6⟩
        | none =>
          rw [e] at sc
          exact ⟨_, rfl, rfl, _, rfl, iteF ⟨_, _, _, rfl, s5, sc⟩⟩
      · rintro σ H2 ⟨v3, v4, v5, rfl, s2, sc⟩
        refine ⟨v3, v4, v5, rfl, s2, ?_⟩
        rw [sc, lx, List.drop_length]
        rfl
    rintro σ H2 ⟨v3, v4, v5, rfl, s2, sc⟩
    rw [sc] at k
    obtain ⟨ds, rfl⟩ := scanD_none sc
    have ld : xs.length = ds.length := by rw [lx]; simp [dR]
    refine ⟨_, rfl, b, rfl, lc_pure (g := gName 4) (fun j y H' => ∀ d, ds[j]? = some d → Ss .tup H' y d) (fun j y H' H'' q s d e => (q d e).keep s) h s2 (by omega) ?_ ?_ fun x σ H Q Q' q z => q _ _ z⟩
    · rintro D i x H3 k' hi hD s3 ⟨acc, hacc⟩ kk
      obtain ⟨r, hr', dx⟩ := pr_get a hi
      obtain ⟨d, hd, rfl⟩ : ∃ d, ds[i]? = some d ∧ r = some (d.map V.str) := by
        have hr' : (ds.map fun d => some (d.map V.str))[i]? = some r := hr'
        rw [List.getElem?_map] at hr'
        cases e : ds[i]? with
        | none => rw [e] at hr'; cases hr'
        | some d => rw [e] at hr'; exact ⟨d, rfl, (Option.some.inj hr').symm⟩
      have only : ∀ {y : V} {H' : Hp}, Ss .tup H' y d → ∀ d', ds[i]? = some d' → Ss .tup H' y d' := fun q d' e => by rw [hd] at e; cases e; exact q
      have dx3 := dx.keep (s2.trans s3)
      cases dx3 with
      | lst h t l =>
        rename_i b'
        refine ⟨rfl, _, rfl, b', _, rfl, .inl ⟨SqL.of h, fun l hl => kk _ _ (sameUpd (Same.refl _) hl) (only ⟨l, rfl, wo_at upd_same fun e => ?_⟩)⟩⟩
        rw [e, hacc] at hl
        cases hl
      | tup h t l =>
        rename_i b'
        refine ⟨rfl, _, rfl, b', _, rfl, .inr ⟨SqT.of h, kk _ _ (Same.refl _) (only ⟨b', rfl, wo_at h fun e => ?_⟩)⟩⟩
        rw [e, hacc] at h
        cases h
    · intro D ys H3 hD s3 hd ly g
      refine ⟨D, ys, rfl, .inl ⟨SqL.of hd, fun l hl => ?_⟩⟩
      refine k _ ds _ rfl (sameUpd ((s1.trans s2).trans s3) hl) ⟨l, ys, rfl, upd_same, pr_of (by omega) fun i y d e1 e2 => ?_⟩
      exact ((g i y e1 d e2).keep wo_same).keep (sameUpd (Same.refl _) hl)
end
end Kx

set_option maxHeartbeats 4000000
namespace Kx
open PySem L2
/-- what a comprehension over an enumerated list or tuple is to show -/
def LcE (J : It) (g : TG) (tt : TT) (te : TE) (vs : List Nat) (σ : L2.St) (H1 : Hp) (Qd : Addr → Hp → Prop) : Prop :=
  ∀ D, H1 D = none → ∃ W : Nat → Nat → Hp → Prop, (∃ m, W 0 m (upd H1 D (.lst []))) ∧ ∀ i m H, W i m H → (J.stop i H ∧ Qd D H) ∨ (J.go i H ∧ ∃ Nx : Hp → Prop, (∀ H', Nx H' → ∃ m', m' < m ∧ W (i + 1) m' H') ∧
      ∀ x H', J.yld i H x H' → g x (wipe σ vs) H' fun σ2 H2 => wipe σ2 vs = wipe σ vs ∧ tt σ2 H2 fun b H3 => if b = true then te σ2 H3 fun y H4 => ∃ acc, H4 D = some (.lst acc) ∧ acc.length < sizeLine ∧ Nx (upd H4 D (.lst (acc ++ [y]))) else Nx H3)
theorem lc_en {K : PySem.W.Frag} {a : Addr} {xs : List V} {g : TG} {tt : TT} {te : TE} {vs : List Nat} {σ : L2.St} {H0 H1 : Hp} {Qd : Addr → Hp → Prop} (q : IsSeq K H0 a xs) (s0 : Same H0 H1)
    (body : ∀ D, H1 D = none → ∃ Pv : Nat → Hp → Prop, Pv 0 (upd H1 D (.lst [])) ∧ (∀ i H, Pv i H → Same H0 H) ∧ (∀ i x H T, xs[i]? = some x → Pv i H → H T = none → g (.ref T) (wipe σ vs) (upd H T (.tup [.int (i : Nat), x])) fun σ2 H2 => wipe σ2 vs = wipe σ vs ∧ tt σ2 H2 fun b H3 =>
      if b = true then te σ2 H3 fun y H4 => ∃ acc, H4 D = some (.lst acc) ∧ acc.length < sizeLine ∧ Pv (i + 1) (upd H4 D (.lst (acc ++ [y]))) else Pv (i + 1) H3) ∧ ∀ H, Pv xs.length H → Qd D H) :
    (SqL K H1 a xs ∧ LcE (Ite K a) g tt te vs σ H1 Qd) ∨ (SqT K H1 a xs ∧ LcE (IteT K a) g tt te vs σ H1 Qd) := by
  rcases q.both with q | q
  · refine .inl ⟨q _ s0, fun D hD => ?_⟩
    obtain ⟨Pv, p0, st, tu, af⟩ := body D hD
    refine ⟨fun i m H => m + i = xs.length ∧ Pv i H, ⟨xs.length, by omega, p0⟩, fun i m H u => ?_⟩
    obtain ⟨e, u⟩ := u
    cases m with
    | zero =>
      obtain rfl : i = xs.length := by omega
      exact .inl ⟨⟨xs, q _ (st _ _ u), Nat.le_refl _⟩, af _ u⟩
    | succ m =>
      have lt : i < xs.length := by omega
      refine .inr ⟨⟨xs, xs[i], q _ (st _ _ u), List.getElem?_eq_getElem lt⟩, Pv (i + 1), fun H' u' => ⟨m, Nat.lt_succ_self _, by omega, u'⟩, fun x H' y => ?_⟩
      obtain ⟨T, z, rfl, free, rfl, same⟩ := y
      exact tu i z H T (same xs (q _ (st _ _ u))) u free
  · refine .inr ⟨q _ s0, fun D hD => ?_⟩
    obtain ⟨Pv, p0, st, tu, af⟩ := body D hD
    refine ⟨fun i m H => m + i = xs.length ∧ Pv i H, ⟨xs.length, by omega, p0⟩, fun i m H u => ?_⟩
    obtain ⟨e, u⟩ := u
    cases m with
    | zero =>
      obtain rfl : i = xs.length := by omega
      exact .inl ⟨⟨xs, q _ (st _ _ u), rfl⟩, af _ u⟩
    | succ m =>
      have lt : i < xs.length := by omega
      refine .inr ⟨⟨xs, xs[i], q _ (st _ _ u), List.getElem?_eq_getElem lt⟩, Pv (i + 1), fun H' u' => ⟨m, Nat.lt_succ_self _, by omega, u'⟩, fun x H' y => ?_⟩
      obtain ⟨T, z, rfl, free, rfl, same⟩ := y
      exact tu i z H T (same xs (q _ (st _ _ u))) u free
/-- what is known of the class History -/
structure HC (K : PySem.W.Frag) (C : Addr) : Prop where
  cl : Cls K C
  nK : NoAttr K C "kinds"
  nY : NoAttr K C "years"
  ca : PySem.W.findIn K (.ref C) "__class__" = some (some (.builtin "object.__class__"))
  cg : PySem.W.specialIn K (.builtin "object.__class__") "__get__" = some (some (.builtin "getset_descriptor.__get__"))
  ct : PySem.W.takesIn K (.builtin "object.__class__") = some true
  cm : PySem.W.mroIn K C (.type "object") = some true
/-- none of the kinds of other things is an instance of it -/
structure NotOf (K : PySem.W.Frag) (C : Addr) : Prop where
  non : PySem.W.kitOne K (.type "NoneType") (.ref C) = some false
  lst : PySem.W.kitOne K (.type "list") (.ref C) = some false
  str : PySem.W.kitOne K (.type "str") (.ref C) = some false
  tup : PySem.W.kitOne K (.type "tuple") (.ref C) = some false
theorem NotOf.kd {K : PySem.W.Frag} {C : Addr} (n : NotOf K C) {t : String} (h : t ∈ ["NoneType", "list", "str", "tuple"]) : PySem.W.kitOne K (.type t) (.ref C) = some false := by
  simp only [List.mem_cons, List.not_mem_nil, or_false] at h
  rcases h with h | h | h | h <;> subst h
  · exact n.non
  · exact n.lst
  · exact n.str
  · exact n.tup
def spHist (K : PySem.W.Frag) (C CK CB : Addr) : Sp := fun vs H Q E => ∃ (p dx : Addr) (k y : V) (r : Option (List (Option (List (Option (List V)))))), vs = [.ref p, k, y] ∧ H p = some (.ins C dx []) ∧ YearsIs K H y r ∧
  ((∃ n, Kd H k n ∧ n ∈ ["NoneType", "list", "str", "tuple"] ∧ ∀ d H', H d = none → Same H H' → H' d = some (.xd (bhF 0 0 "kinds")) → E (.ref CB) (some d) H') ∨
   (∃ kp ks, k = .ref kp ∧ kp ≠ p ∧ KindsAt CK H kp (vv ks) ∧ kbOk ks ∧ match yearsDue ks r with
    | some (i, j, w) => ∀ d H', H d = none → (∀ b o, H b = some o → b ≠ p → H' b = some o) → H' d = some (.xd (bhF (i : Nat) (j : Nat) w)) → E (.ref CB) (some d) H'
    | none => ∀ ys H', r = some (yR ys) → (∀ b o, H b = some o → b ≠ p → H' b = some o) → HistAt C CK H' p ks ys → Q .non H'))
section
variable {P : Program} {w : World} {K : PySem.W.Frag} {mg : Str → Option Value} {base : Heap}
abbrev nHist : List Str := ["self", "kinds", "years", "index", "year"]
theorem scHist : FnScope nHist ["self", "kinds", "years"] (defScope sHistory_init) := ⟨rfl, rfl, rfl, by decide +kernel, rfl, by decide +kernel, by decide +kernel⟩
theorem ok_hist {f C CK CB fB gY : Addr} {fd fdB fdY : FuncData} {dv : V} (F : FunD K "__init__" "History.__init__" (defArgs sHistory_init) (defBody sHistory_init) (defScope sHistory_init) [dv] [] f fd) (T : Bl mg) (B : Bm mg) (KX : KC K CK) (HX : HC K C) (NK : NotOf K CK) (mK : mg "Kinds" = some (.ref CK)) (Sq : HasF P w K mg base "is_sequence" 1 ["thing"] (spSeqK K)) (Lg : HasF P w K mg base "_is_too_long" 2 ["years"] (spLong K))
    (YO : FnOk P w K mg base (L2.CX P w) 3 gY fdY ["kinds", "index", "year"] (spYearOf K CK CB)) (mY : mg "_year_of" = some (.ref gY)) (kpY : PySem.W.keepIn K (.ref gY) = true) (bY : Binds K fdY ["kinds", "index", "year"] []) (EB : BH P w K mg base CB fB fdB) :
    FnOk P w K mg base (L2.CX P w) 4 f fd ["self", "kinds", "years"] (spHist K C CK CB) := by
  obtain ⟨f1, fd1, Sq⟩ := Sq; obtain ⟨f2, fd2, Lg⟩ := Lg
  refine F.ok scHist (fun vs H Q E h => ?_) (fun cdv A outer s H vs Q E hr h => ?_)
  · obtain ⟨a, b, c, d, e, rfl, _⟩ := h
    rfl
  · obtain ⟨p, dx, k0, y, r, rfl, hp, hy, k⟩ := h
    have hr1 : Room 1 _ := hr.mono (by decide)
    have hr2 : Room 2 _ := hr.mono (by decide)
    refine ⟨_, (pss_cons (ps_if (pt_not (pt_val (pe_callB call_isi (by rfl) B.isinstance (by decide +kernel) (pa_cons (pv 1) (pa_cons (pe_glob (v := .ref CK) rfl mK rfl) pa_nil))))) (pss_one (ps_raise rfl (takes_of rfl rfl rfl rfl) (pmk_oex EB.E.T EB.E.iC EB.E.tI EB.E.G hr2 EB.E.b .nil pass0 (by rfl) EB.E.gC (pa_cons pe_int (pa_cons pe_int (pa_cons pe_str pa_nil)))))) pss_nil)
    (pss_cons (ps_if (pt_not (pt_val (pe_call Sq.G hr1 (by rfl) Sq.m Sq.kp Sq.b .nil pass0 (pa_cons (pv 2) pa_nil)))) (pss_one (ps_raise rfl (takes_of rfl rfl rfl rfl) (pmk_oex EB.E.T EB.E.iC EB.E.tI EB.E.G hr2 EB.E.b .nil pass0 (by rfl) EB.E.gC (pa_cons pe_int (pa_cons pe_int (pa_cons pe_str pa_nil)))))) pss_nil)
    (pss_cons (ps_if (pt_val (pe_call Lg.G hr2 (by rfl) Lg.m Lg.kp Lg.b .nil pass0 (pa_cons (pv 2) pa_nil))) (pss_one (ps_raise rfl (takes_of rfl rfl rfl rfl) (pmk_oex EB.E.T EB.E.iC EB.E.tI EB.E.G hr2 EB.E.b .nil pass0 (by rfl) EB.E.gC (pa_cons pe_int (pa_cons pe_int (pa_cons pe_str pa_nil)))))) pss_nil)
    (pss_cons (ps_fld (pv 0) (pv 1) rfl)
    (pss_one (ps_fld (pv 0) (pe_callTy call_tuple_of (by rfl) B.tuple (by decide +kernel) (pa_cons (pe_lcX (own := [("index", 3), ("year", 4)]) (g := gTup K 2 (gCons (gName 3) (gCons (gName 4) gNil))) (tt := tYes) (te := fun E => tCallS (spYearOf K CK CB) (fun _ => E) _) rfl rfl (takes_of rfl rfl rfl rfl) (by rfl) scHist.nd (pi_enumB (by rfl) T.enumerate (pa_cons (pv 2) pa_nil)) (blkOk_by (own := [("index", 3), ("year", 4)]) (N := nHist) (sc := defScope sHistory_init) (by decide +kernel))
          (fun _ _ _ _ _ _ => pg_tup rfl (pgs_cons (pg_name scHist.nd rfl (.inl rfl)) (pgs_cons (pg_name scHist.nd rfl (.inl rfl)) pgs_nil))) (fun _ _ _ _ _ _ => pts_nil) (fun _ _ _ _ _ _ => pe_callS YO hr (by rfl) mY kpY bY (fun σ => passB σ) (pa_cons (pv 1) (pa_cons (pv 3) (pa_cons (pv 4) pa_nil))))) pa_nil)) rfl)))))), ?_⟩
    have off : ∀ {H' : Hp}, Same H H' → ∀ b o, H b = some o → b ≠ p → H' b = some o := fun s b o e _ => s b o e
    rcases k with ⟨n, kn, nin, k⟩ | ⟨kp, ks, rfl, kne, hk, kb, k⟩
    · refine ⟨_, rfl, k0, _, _, _, _, rfl, .own CK, kn.ty, NK.kd nin, _, rfl, iteT ?_⟩
      exact fin3 EB.E.T EB.n1 EB.n2 EB.n3 fun d H2 hd s2 e2 => k d H2 hd s2 e2
    obtain ⟨kdx, kfs, _, _, _, _, g1, _⟩ := hk.get (K := K)
    refine ⟨_, rfl, _, _, _, _, _, rfl, .own CK, KX.ty g1, kit_self, _, rfl, iteF ?_⟩
    refine ⟨_, rfl, y, _, rfl, hy.sq, fun H1 s1 => ⟨_, rfl, ?_⟩⟩
    have hy1 := hy.keep s1
    cases hy1 with
    | oth h l =>
      refine iteT (fin3 EB.E.T EB.n1 EB.n2 EB.n3 fun d H2 hd s2 e2 => ?_)
      have k : ∀ d H', H d = none → (∀ b o, H b = some o → b ≠ p → H' b = some o) → H' d = some (.xd (bhF 0 0 "years")) → E (.ref CB) (some d) H' := k
      exact k d H2 (s1.free hd) (off (s1.trans s2)) e2
    | seq h a l =>
    rename_i b xs rs
    refine iteF ?_
    have lx := Paired.length a
    refine ⟨_, rfl, b, xs, rs, rfl, h, a, l, fun H2 s2 => ⟨_, rfl, ?_⟩⟩
    have k : match (if tooMany rs = true then some (0, 0, Str.ofString "many") else scanY ks 0 rs) with
      | some (i, j, w) => ∀ d H', H d = none → (∀ b o, H b = some o → b ≠ p → H' b = some o) → H' d = some (.xd (bhF (i : Nat) (j : Nat) w)) → E (.ref CB) (some d) H'
      | none => ∀ ys H', some rs = some (yR ys) → (∀ b o, H b = some o → b ≠ p → H' b = some o) → HistAt C CK H' p ks ys → Q .non H' := k
    cases em : tooMany rs with
    | true =>
      rw [em, if_pos rfl] at k
      exact iteT (fin3 EB.E.T EB.n1 EB.n2 EB.n3 fun d H3 hd s3 e3 => k d H3 ((s1.trans s2).free hd) (off ((s1.trans s2).trans s3)) e3)
    | false =>
    rw [em, if_neg Bool.false_ne_true] at k
    refine iteF ?_
    have s02 := s1.trans s2
    have hp2 := s02 _ _ hp
    refine ⟨_, rfl, _, rfl, p, C, dx, [], rfl, hp2, HX.cl, HX.nK, (by show 0 < 1000; decide), ?_⟩
    obtain ⟨H3, eH3⟩ : ∃ H3, upd H2 p (.ins C dx (putF "kinds" (.ref kp) [])) = H3 := ⟨_, rfl⟩
    have hp3 : H3 p = some (.ins C dx (putF "kinds" (.ref kp) [])) := by rw [← eH3]; exact upd_same
    have w23 : Same (wo p H2) (wo p H3) := by rw [← eH3]; exact woU (Same.refl _)
    rw [show upd H2 p (.ins C dx (putF "kinds" (.ref kp) [])) = H3 from eH3]
    have hk3 : KindsAt CK (wo p H3) kp (vv ks) := ((hk.keep s02).off hp2 kne).keep w23
    have h3 : IsSeq K (wo p H3) b xs := ((h.keep s2).off hp2).keep w23
    have a3 : Paired (YearIs K (wo p H3)) xs rs := pr_imp a fun _ _ q => (((q.keep s2).off hp2).keep w23)
    have back : ∀ {H' : Hp}, Same (wo p H3) (wo p H') → ∀ b o, H b = some o → b ≠ p → H' b = some o := fun s b o e ne => wo_same _ _ (s b o (w23 b o (wo_at (s02 b o e) ne)))
    have h0 : ∀ {d : Addr} {H' : Hp}, (∀ b o, H b = some o → b ≠ p → H' b = some o) → H' d = none → H' p ≠ none → H d = none := fun {d H'} q hd hp' => by
      cases e : H d with
      | none => rfl
      | some o =>
        by_cases z : d = p
        · rw [z] at hd; exact absurd hd hp'
        · rw [q d o e z] at hd; cases hd
    refine ⟨_, rfl, b, xs, rfl, lc_en h3 wo_same fun D hD => ⟨fun i H4 => Same H3 H4 ∧ scanY ks 0 rs = scanY ks i (rs.drop i) ∧ ∃ acc ys, H4 D = some (.lst acc) ∧ rs.take i = yR ys ∧ Paired (Ds .tup (wo D H4)) acc ys ∧ acc.length = i ∧ i ≤ xs.length, ⟨sameUpd (Same.refl _) hD, rfl, [], [], upd_same, rfl, .nil, rfl, Nat.zero_le _⟩, fun i H4 q => wo_same.trans q.1, ?_, ?_⟩⟩
    · rintro i x H4 t hi ⟨s4, sc, acc, ys, hacc, ey, ad, al, _⟩ ht
      have lt : i < xs.length := (List.getElem?_eq_some_iff.mp hi).1
      have s5 : Same H3 (upd H4 t (.tup [.int (i : Nat), x])) := sameUpd s4 ht
      have tD : t ≠ D := (ne_of_none hacc ht).symm
      obtain ⟨r, hr', dx'⟩ := pr_get a3 hi
      rw [scanY_step hr'] at sc
      refine ⟨t, _, rfl, SqT.of upd_same, rfl, _, _, rfl, _, _, rfl, rfl, rfl, ?_⟩
      refine ⟨_, rfl, _, rfl, _, rfl, kp, (i : Nat), x, ks, r, rfl, (hk3.keep wo_same).keep s5, kb, (dx'.keep wo_same).keep s5, ?_⟩
      cases e : yearWord ks r with
      | some jw =>
        obtain ⟨j, w'⟩ := jw
        rw [e] at sc
        have sc : scanY ks 0 rs = some (i, j, w') := sc
        rw [sc] at k
        intro d H5 hd s6 e6
        have q := back (wo_mono (s5.trans s6))
        exact k d H5 (h0 (back (wo_mono s5)) hd (by rw [s5 _ _ hp3]; exact fun z => nomatch z)) q e6
      | none =>
        rw [e] at sc
        have sc : scanY ks 0 rs = scanY ks (i + 1) (rs.drop (i + 1)) := sc
        intro z ds H5 er s6 hz
        subst er
        have hD5 : H5 D = some (.lst acc) := s6 _ _ (by rw [upd_ne tD.symm]; exact hacc)
        have hz' : Ds .tup (wo D H5) z ds := by
          obtain ⟨a1, zs, e1, e2, e3⟩ := hz
          refine ⟨a1, zs, e1, wo_at e2 (fun q => by rw [q, hD5] at e2; cases e2), pr_imp e3 fun u v q => ?_⟩
          obtain ⟨a2, f1, f2⟩ := q
          exact ⟨a2, f1, wo_at f2 fun q => by rw [q, hD5] at f2; cases f2⟩
        refine ⟨acc, hD5, line2 (by omega), woD hD s5 s6, sc, acc ++ [z], ys ++ [ds], upd_same, ?_, ?_, by simp [al], lt⟩
        · rw [take_succ_of hr', ey]
          simp [yR]
        · have w5 : Same (wo D H4) (wo D (upd H5 D (.lst (acc ++ [z])))) := ((wo_mono (sameUpd (Same.refl _) ht)).trans (wo_mono s6)).trans (woU (Same.refl _))
          exact pr_app (pr_imp ad fun _ _ q => q.keep w5) (.cons (hz'.keep (woU (Same.refl _))) .nil)
    · rintro H4 ⟨s4, sc, acc, ys, hacc, ey, ad, al, _⟩
      have sc : scanY ks 0 rs = none := by
        rw [sc, lx, List.drop_length]
        rfl
      rw [List.take_of_length_le (by omega)] at ey
      subst ey
      rw [sc] at k
      have Dp : D ≠ p := (ne_of_none hp3 hD).symm
      refine ⟨D, acc, rfl, .inl ⟨SqL.of hacc, fun l hl => ?_⟩⟩
      have lp : l ≠ p := (ne_of_none (s4 _ _ hp3) hl).symm
      have hp5 : upd H4 l (.tup acc) p = some (.ins C dx (putF "kinds" (.ref kp) [])) := by rw [upd_ne lp.symm]; exact s4 _ _ hp3
      refine ⟨_, rfl, p, C, dx, _, rfl, hp5, HX.cl, HX.nY, (by show 1 < 1000; decide), ?_⟩
      have s5 : Same (wo p H4) (wo p (upd (upd H4 l (.tup acc)) p (.ins C dx (hFs kp l)))) := (wo_mono (sameUpd (Same.refl _) hl)).trans (woU (Same.refl _))
      have q := back ((wo_mono s4).trans s5)
      refine k ys _ rfl q ⟨dx, kp, l, upd_same, (hk3.keep (wo_mono s4)).keep (s5.trans wo_same), l, acc, rfl, by rw [upd_ne lp, upd_same], pr_imp ad fun u v z => ?_⟩
      have z : Ds .tup H4 u v := z.keep wo_same
      have off2 : Ds .tup (wo p H4) u v := by
        obtain ⟨a1, zs, e1, e2, e3⟩ := z
        refine ⟨a1, zs, e1, wo_at e2 (fun q => by rw [q, s4 _ _ hp3] at e2; cases e2), pr_imp e3 fun u v q => ?_⟩
        obtain ⟨a2, f1, f2⟩ := q
        exact ⟨a2, f1, wo_at f2 fun q => by rw [q, s4 _ _ hp3] at f2; cases f2⟩
      exact off2.keep (s5.trans wo_same)
end
end Kx

set_option maxHeartbeats 4000000
namespace Kx
open PySem L2
/-! what a history tells: persons, deeds -/
def add1 (acc : List Str) (z : Str) : List Str := if z ∈ acc then acc else acc ++ [z]
def addAll (acc zs : List Str) : List Str := zs.foldl add1 acc
theorem addAll_len : ∀ (zs acc : List Str), (addAll acc zs).length ≤ acc.length + zs.length
  | [], acc => by simp [addAll]
  | z :: zs, acc => by
    have ih := addAll_len zs (add1 acc z)
    have e : addAll acc (z :: zs) = addAll (add1 acc z) zs := rfl
    have l : (add1 acc z).length ≤ acc.length + 1 := by
      unfold add1
      split
      · omega
      · simp
    rw [e, List.length_cons]
    omega
theorem addAll_app (acc xs ys : List Str) : addAll acc (xs ++ ys) = addAll (addAll acc xs) ys := List.foldl_append
theorem addAll_one (acc xs : List Str) (z : Str) : addAll acc (xs ++ [z]) = add1 (addAll acc xs) z := by
  rw [addAll_app]
  rfl
def deedP (d : List Str) : List Str := d.tail
def yearP (y : List (List Str)) : List Str := y.flatMap deedP
def allP (ys : List (List (List Str))) : List Str := ys.flatMap yearP
def persOf (ys : List (List (List Str))) : List Str := addAll [] (allP ys)
theorem fm_take {α β : Type} {f : α → List β} {xs : List α} {i : Nat} {x : α} (h : xs[i]? = some x) : (xs.take (i + 1)).flatMap f = (xs.take i).flatMap f ++ f x := by
  rw [take_succ_of h, List.flatMap_append]
  simp
theorem fm_len {α β : Type} {f : α → List β} : ∀ (xs : List α) (i : Nat), ((xs.take i).flatMap f).length ≤ (xs.flatMap f).length
  | [], i => by simp
  | x :: xs, 0 => by simp
  | x :: xs, i + 1 => by
    have ih := fm_len (f := f) xs i
    simp only [List.take_succ_cons, List.flatMap_cons, List.length_append]
    omega
theorem fm_pre {α β : Type} {f : α → List β} {xs : List α} {i : Nat} {x : α} (h : xs[i]? = some x) : ((xs.take i).flatMap f ++ f x).length ≤ (xs.flatMap f).length := by
  rw [← fm_take h]
  exact fm_len xs (i + 1)
/-- the dict of the persons -/
def pD (ls : List Str) : List (Key × V) := ls.map fun z => (Sum.inr z, V.bl true)
theorem pD_any (ls : List Str) (z : Str) : ((pD ls).any fun kv => decide (kv.1 = (Sum.inr z : Key))) = decide (z ∈ ls) := by
  unfold pD
  rw [List.any_map]
  induction ls with
  | nil => rfl
  | cons y ls ih =>
    rw [List.any_cons, ih]
    by_cases e : y = z
    · subst e
      simp
    · have e2 : ¬ z = y := fun h => e h.symm
      have e3 : ¬ (Sum.inr y : Key) = Sum.inr z := fun h => e (Sum.inr.inj h)
      simp [e2, e3]
theorem pD_put (ls : List Str) (z : Str) : putK (pD ls) (Sum.inr z : Key) (V.bl true) = pD (add1 ls z) := by
  unfold putK add1
  rw [pD_any]
  by_cases e : z ∈ ls
  · rw [if_pos (decide_eq_true e), if_pos e]
    unfold pD
    rw [List.map_map]
    refine List.map_congr_left fun y _ => ?_
    show (if (Sum.inr y : Key) = Sum.inr z then _ else _) = _
    split <;> rfl
  · rw [if_neg (by rw [decide_eq_false e]; decide), if_neg e]
    unfold pD
    rw [List.map_append]
    rfl
theorem pD_keys (ls : List Str) : ((pD ls).map fun kv => kV kv.1) = ls.map V.str := by
  unfold pD
  rw [List.map_map]
  rfl
def dCount (ys : List (List (List Str))) : Nat := (ys.map List.length).sum
def spPersons1 (C CK : Addr) : Sp := fun vs H Q _ => ∃ (p : Addr) (ks : List (Str × Int)) (ys : List (List (List Str))), vs = [.ref p] ∧ HistAt C CK H p ks ys ∧ (∀ y ∈ ys, ∀ d ∈ y, d ≠ []) ∧ (allP ys).length ≤ 2000000 ∧ ∀ q H', Same H H' → H q = none → H' q = some (.tup ((persOf ys).map V.str)) → Q (.ref q) H'
def spCount (C CK : Addr) : Sp := fun vs H Q _ => ∃ (p : Addr) (ks : List (Str × Int)) (ys : List (List (List Str))), vs = [.ref p] ∧ HistAt C CK H p ks ys ∧ ys.length ≤ 2000000 ∧ ∀ H', Same H H' → Q (.int (dCount ys : Nat)) H'
def spHLen (C CK : Addr) : Sp := fun vs H Q _ => ∃ (p : Addr) (ks : List (Str × Int)) (ys : List (List (List Str))), vs = [.ref p] ∧ HistAt C CK H p ks ys ∧ Q (.int (ys.length : Nat)) H
/-- where the years stand -/
def YearsOf (fs : List (Str × V)) (t : Addr) (_ : List V) : Prop := fs.lookup ("years" : Str) = some (.ref t)
section
variable {P : Program} {w : World} {K : PySem.W.Frag} {mg : Str → Option Value} {base : Heap}
theorem scHLen : FnScope ["self"] ["self"] (defScope sHistory_len) := ⟨rfl, rfl, rfl, by decide +kernel, rfl, by decide +kernel, by decide +kernel⟩
theorem ok_hlen {f C CK : Addr} {fd : FuncData} (F : Fun K "__len__" "History.__len__" sHistory_len f fd) (T : Bl mg) (HX : HC K C) : FnOk P w K mg base CX0 1 f fd ["self"] (spHLen C CK) := by
  refine F.ok scHLen (fun vs H Q E h => ?_) (fun cdv A outer s H vs Q E hr h => ?_)
  · obtain ⟨p, ks, ys, rfl, _⟩ := h
    rfl
  · obtain ⟨p, ks, ys, rfl, hk, k⟩ := h
    obtain ⟨dx, fs, kp, yt, h1, h2, h3, h4, h5, a, xs, ea, h6, h7⟩ := hk.ob
    cases ea
    refine ⟨_, pss_one (ps_ret (pe_callB call_len_seq (by rfl) T.len PySem.boot_len (pa_cons (pe_fld (pv 0) rfl) pa_nil))), ?_⟩
    refine ⟨_, rfl, p, C, dx, fs, _, rfl, h1, HX.cl, HX.nY, h3, yt, _, rfl, .inr (SqT.of h6), ?_⟩
    rw [Paired.length h7]
    exact k
theorem scHIter : FnScope ["self"] ["self"] (defScope sHistory_iter) := ⟨rfl, rfl, rfl, by decide +kernel, rfl, by decide +kernel, by decide +kernel⟩
theorem ok_hiter {f C : Addr} {fd : FuncData} (F : Fun K "__iter__" "History.__iter__" sHistory_iter f fd) (mI : mg "iter" = none) (HX : HC K C) : FnA P w K mg base CX0 1 f fd ["self"] (spIterT K C YearsOf) := by
  refine okA F scHIter (fun A s vs H Q E h => ?_) (fun cdv A outer s H vs Q E hr h => ?_)
  · obtain ⟨a, dx, fs, rfl, _⟩ := h
    rfl
  · obtain ⟨a, dx, fs, rfl, h1, t, zs, hT, hq, k⟩ := h
    refine ⟨_, pss_one (ps_ret (pe_callB call_iterT (by rfl) mI (by decide +kernel) (pa_cons (pe_fld (pv 0) rfl) pa_nil))), ?_⟩
    exact ⟨_, rfl, a, C, dx, fs, _, rfl, h1, HX.cl, HX.nY, hT, t, zs, rfl, hq, fun it e1 e2 => k it e1 e2⟩
abbrev nPers1 : List Str := ["self", "found", "year", "deed", "person"]
theorem scPers1 : FnScope nPers1 ["self"] (defScope sHistory_persons) := ⟨rfl, rfl, rfl, by decide +kernel, rfl, by decide +kernel, by decide +kernel⟩
theorem ok_pers {f C CK : Addr} {fd : FuncData} (F : Fun K "persons" "History.persons" sHistory_persons f fd) (B : Bm mg) (HX : HC K C) : FnOk P w K mg base CX0 1 f fd ["self"] (spPersons1 C CK) := by
  refine F.ok scPers1 (fun vs H Q E h => ?_) (fun cdv A outer s H vs Q E hr h => ?_)
  · obtain ⟨p, ks, ys, rfl, _⟩ := h
    rfl
  · obtain ⟨p, ks, ys, rfl, hk, ne, lz, k⟩ := h
    have hu := hu_of hr
    obtain ⟨dx, fs, kp, yt, h1, h2, h3, h4, h5, a, xs, ea, h6, h7⟩ := hk.ob
    cases ea
    have lx := Paired.length h7
    refine ⟨_, (pss_cons (ps_set (i := 1) scPers1.nd rfl (Or.inl rfl) pe_dnewK)
    (pss_cons (ps_for PassesOwn.never rfl (pi_tup (pe_fld (pv 0) rfl)) (pg_name (i := 2) scPers1.nd rfl (.inl rfl))
        (pss_one (ps_for PassesOwn.never rfl (pi_tup (pv 2)) (pg_name (i := 3) scPers1.nd rfl (.inl rfl))
          (pss_one (ps_for PassesOwn.never rfl (pi_tup (pe_slice sl_tup (pv 3) (po_some pe_int) po_none)) (pg_name (i := 4) scPers1.nd rfl (.inl rfl))
            (pss_one (ps_dput hu (pv 1) (pv 4) pe_bl rfl)))))))
    (pss_one (ps_ret (pe_callTy (call_tuple_dK rfl) (by rfl) B.tuple (by decide +kernel) (pa_cons (pv 1) pa_nil)))))), ?_⟩
    intro f hf
    have s0 : Same H (upd H f (.dK [])) := sameUpd (Same.refl _) hf
    have fp : f ≠ p := (ne_of_none h1 hf).symm
    refine ⟨_, rfl, p, C, dx, fs, _, rfl, s0 _ _ h1, HX.cl, HX.nY, h3, ?_⟩
    -- what stands: all but f as it was
    refine ⟨yt, rfl, ⟨_, SqT.of (s0 _ _ h6)⟩, for_tup (K := K) (a := yt) (xs := xs) (fun i σ H2 => ∃ v2 v3 v4 : Option V, σ = [some (.ref p), some (.ref f), v2, v3, v4] ∧ Same H H2 ∧ H2 f = some (.dK (pD (addAll [] ((ys.take i).flatMap yearP)))))
      ⟨none, none, none, rfl, s0, upd_same⟩ (fun i σ H2 _ ⟨_, _, _, _, s, _⟩ => SqT.of (s _ _ h6)) ?_ ?_⟩
    · rintro i x σ H2 hi ⟨v2, v3, v4, rfl, s2, hd2⟩
      obtain ⟨ds, hds, b, zs, rfl, hb, pz⟩ := pr_get h7 hi
      have memy : ds ∈ ys := List.mem_of_getElem? hds
      refine ⟨_, rfl, b, rfl, ⟨_, SqT.of (s2 _ _ hb)⟩, for_tup (K := K) (a := b) (xs := zs) (fun j σ H3 => ∃ v3 v4 : Option V, σ = [some (.ref p), some (.ref f), some (.ref b), v3, v4] ∧ Same H H3 ∧ H3 f = some (.dK (pD (addAll [] ((ys.take i).flatMap yearP ++ (ds.take j).flatMap deedP)))))
        ⟨v3, v4, rfl, s2, by simpa using hd2⟩ (fun j σ H3 _ ⟨_, _, _, s, _⟩ => SqT.of (s _ _ hb)) ?_ ?_⟩
      · rintro j x σ H3 hj ⟨v3, v4, rfl, s3, hd3⟩
        obtain ⟨d, hd, c, rfl, hc⟩ := pr_get pz hj
        obtain ⟨z0, zr, rfl⟩ : ∃ z0 zr, d = z0 :: zr := by
          cases d with
          | nil => exact absurd rfl (ne ds memy [] (List.mem_of_getElem? hd))
          | cons z0 zr => exact ⟨z0, zr, rfl⟩
        refine ⟨_, rfl, _, rfl, c, _, rfl, SqT.of (s3 _ _ hc), whole _ _, fun q hq => ?_⟩
        have s4 : Same H (upd H3 q (.tup (cutV ((z0 :: zr).map V.str) (some 1) none))) := sameUpd s3 hq
        have qf : q ≠ f := (ne_of_none hd3 hq).symm
        have ecut : cutV ((z0 :: zr).map V.str) (some 1) none = zr.map V.str := by rw [List.map_cons, cut1]
        refine ⟨q, rfl, ⟨_, SqT.of upd_same⟩, for_tup (K := K) (a := q) (xs := cutV ((z0 :: zr).map V.str) (some 1) none) (fun m σ H4 => ∃ v4 : Option V, σ = [some (.ref p), some (.ref f), some (.ref b), some (.ref c), v4] ∧ Same H H4 ∧ H4 q = some (.tup (cutV ((z0 :: zr).map V.str) (some 1) none)) ∧ H4 f = some (.dK (pD (addAll [] ((ys.take i).flatMap yearP ++ (ds.take j).flatMap deedP ++ zr.take m)))))
          ⟨v4, rfl, s4, upd_same, by rw [upd_ne qf.symm]; simpa using hd3⟩ (fun m σ H4 _ ⟨_, _, _, h, _⟩ => SqT.of h) ?_ ?_⟩
        · rintro m x σ H4 hm ⟨v4, rfl, s5, hq5, hd5⟩
          rw [ecut, List.getElem?_map] at hm
          obtain ⟨z, hz, rfl⟩ : ∃ z, zr[m]? = some z ∧ x = V.str z := by
            cases e : zr[m]? with
            | none => rw [e] at hm; cases hm
            | some z => rw [e] at hm; exact ⟨z, rfl, (Option.some.inj hm).symm⟩
          have bound : (pD (addAll [] ((ys.take i).flatMap yearP ++ (ds.take j).flatMap deedP ++ zr.take m))).length < sizeLine := by
            unfold pD
            rw [List.length_map]
            refine line2 ?_
            have b1 := addAll_len ((ys.take i).flatMap yearP ++ (ds.take j).flatMap deedP ++ zr.take m) []
            have b2 := fm_pre (f := yearP) hds
            have b3 : ((ds.take j).flatMap deedP ++ deedP (z0 :: zr)).length ≤ (yearP ds).length := fm_pre (f := deedP) hd
            have b4 : (deedP (z0 :: zr)).length = zr.length := rfl
            have b5 : (allP ys).length = (ys.flatMap yearP).length := rfl
            simp only [List.length_append, List.length_take, List.length_nil] at b1 b2 b3 ⊢
            omega
          refine ⟨_, rfl, _, rfl, f, _, rfl, DPut.k (k := Sum.inr z) hd5 bound, some (.str z), rfl, fun c' o e => ?_, ?_, ?_⟩
          · rw [upd_ne (ne_of_none e hf)]
            exact s5 c' o e
          · rw [upd_ne qf]
            exact hq5
          · rw [upd_same, pD_put, take_succ_of hz, ← List.append_assoc, addAll_one]
        · rintro σ H4 ⟨v4, rfl, s5, _, hd5⟩
          refine ⟨_, _, rfl, s5, ?_⟩
          rw [ecut, List.length_map, List.take_length, List.append_assoc] at hd5
          rw [hd5, fm_take hd]
          rfl
      · rintro σ H3 ⟨v3, v4, rfl, s3, hd3⟩
        refine ⟨_, _, _, rfl, s3, ?_⟩
        rw [hd3, Paired.length pz, List.take_length, fm_take hds]
        rfl
    · rintro σ H2 ⟨v2, v3, v4, rfl, s2, hd2⟩
      rw [lx, List.take_length] at hd2
      refine ⟨_, rfl, f, _, rfl, hd2, fun q hq => k q _ (sameUpd s2 hq) (s2.free hq) ?_⟩
      rw [upd_same, pD_keys]
      rfl
end
end Kx

set_option maxHeartbeats 4000000
namespace Kx
open PySem
/-! the mathematics of entries: what an entry lets, what lies within what -/
abbrev Deed := List Str
def hdOf (d : Deed) : Str := d.headD ""
/-- from place p on, the told deeds stand in the year in their order, and every other deed's kind is free -/
inductive Acc (free : List Str) (told : List Deed) : Nat → List Deed → Prop
  | done : Acc free told told.length []
  | hit {p : Nat} {d : Deed} {y : List Deed} (h : told[p]? = some d) (r : Acc free told (p + 1) y) : Acc free told p (d :: y)
  | free {p : Nat} {d : Deed} {y : List Deed} (h : hdOf d ∈ free) (r : Acc free told p y) : Acc free told p (d :: y)
/-- the programme: a deed that is the next one told is taken as that one -/
def letsP (free : List Str) (told : List Deed) : Nat → List Deed → Bool
  | p, [] => decide (p = told.length)
  | p, d :: y => if told[p]? = some d then letsP free told (p + 1) y else if hdOf d ∈ free then letsP free told p y else false
/-- the law: all the places where one may be -/
def placesL (free : List Str) (told : List Deed) : List Nat → List Deed → List Nat
  | ps, [] => ps
  | ps, d :: y => placesL free told (((ps.filter fun p => decide (told[p]? = some d)).map (· + 1)) ++ (if hdOf d ∈ free then ps else [])) y
def letsL (free : List Str) (told : List Deed) (y : List Deed) : Bool := decide (told.length ∈ placesL free told [0] y)
section
variable {free : List Str} {told : List Deed}
theorem Acc.le {p : Nat} {y : List Deed} (a : Acc free told p y) : p ≤ told.length := by
  induction a with
  | done => exact Nat.le_refl _
  | hit h r ih => omega
  | free h r ih => exact ih
/-- a deed that may be passed over may be taken, too -/
theorem Acc.take {p : Nat} {d : Deed} {y : List Deed} (hf : hdOf d ∈ free) (h : told[p]? = some d) (a : Acc free told p y) : Acc free told (p + 1) y := by
  induction a with
  | done =>
    rw [List.getElem?_eq_none (Nat.le_refl _)] at h
    cases h
  | hit h2 r ih =>
    rw [h] at h2
    cases h2
    exact .free hf r
  | free h2 r ih => exact .free h2 (ih h)
theorem letsP_acc : ∀ {y : List Deed} {p : Nat}, letsP free told p y = true ↔ Acc free told p y
  | [], p => by
    show decide (p = told.length) = true ↔ _
    refine ⟨fun h => ?_, fun a => ?_⟩
    · rw [of_decide_eq_true h]
      exact .done
    · cases a
      exact decide_eq_true rfl
  | d :: y, p => by
    show (if told[p]? = some d then letsP free told (p + 1) y else if hdOf d ∈ free then letsP free told p y else false) = true ↔ _
    by_cases h : told[p]? = some d
    · rw [if_pos h, letsP_acc]
      refine ⟨fun a => .hit h a, fun a => ?_⟩
      cases a with
      | hit _ r => exact r
      | free hf r => exact r.take hf h
    · rw [if_neg h]
      by_cases hf : hdOf d ∈ free
      · rw [if_pos hf, letsP_acc]
        refine ⟨fun a => .free hf a, fun a => ?_⟩
        cases a with
        | hit h2 r => exact absurd h2 h
        | free _ r => exact r
      · rw [if_neg hf]
        refine ⟨(fun z => nomatch z), fun a => ?_⟩
        cases a with
        | hit h2 r => exact absurd h2 h
        | free h2 r => exact absurd h2 hf
theorem places_acc : ∀ {y : List Deed} {ps : List Nat}, told.length ∈ placesL free told ps y ↔ ∃ p ∈ ps, Acc free told p y
  | [], ps => by
    show told.length ∈ ps ↔ _
    refine ⟨fun h => ⟨_, h, .done⟩, fun ⟨p, hp, a⟩ => ?_⟩
    cases a
    exact hp
  | d :: y, ps => by
    show told.length ∈ placesL free told _ y ↔ _
    rw [places_acc]
    refine ⟨fun ⟨p, hp, a⟩ => ?_, fun ⟨p, hp, a⟩ => ?_⟩
    · rcases List.mem_append.mp hp with h | h
      · obtain ⟨q, hq, rfl⟩ := List.mem_map.mp h
        obtain ⟨h1, h2⟩ := List.mem_filter.mp hq
        exact ⟨q, h1, .hit (of_decide_eq_true h2) a⟩
      · split at h
        · rename_i hf
          exact ⟨p, h, .free hf a⟩
        · cases h
    · cases a with
      | hit h r => exact ⟨p + 1, List.mem_append_left _ (List.mem_map.mpr ⟨p, List.mem_filter.mpr ⟨hp, decide_eq_true h⟩, rfl⟩), r⟩
      | free hf r => exact ⟨p, List.mem_append_right _ (by rw [if_pos hf]; exact hp), r⟩
theorem letsL_acc {y : List Deed} : letsL free told y = true ↔ Acc free told 0 y := by
  unfold letsL
  rw [decide_eq_true_iff, places_acc]
  exact ⟨fun ⟨p, hp, a⟩ => by rw [List.mem_singleton.mp hp] at a; exact a, fun a => ⟨0, List.mem_singleton.mpr rfl, a⟩⟩
/-- the programme's answer is the law's -/
theorem lets_same (y : List Deed) : letsP free told 0 y = letsL free told y := by
  rw [Bool.eq_iff_iff, letsP_acc, letsL_acc]
/-- how many deeds of a kind that isn't free the year has is settled -/
theorem Acc.count {n : Str} (hn : n ∉ free) {p : Nat} {y : List Deed} (a : Acc free told p y) : (y.filter fun d => decide (hdOf d = n)).length = ((told.drop p).filter fun d => decide (hdOf d = n)).length := by
  induction a with
  | done => rw [List.drop_length]
  | @hit p d y h r ih =>
    obtain ⟨lt, e⟩ := List.getElem?_eq_some_iff.mp h
    rw [List.drop_eq_getElem_cons lt, e, List.filter_cons, List.filter_cons]
    split
    · rw [List.length_cons, List.length_cons, ih]
    · exact ih
  | @free p d y h r ih =>
    rw [List.filter_cons]
    split
    · rename_i e
      exact absurd (by rw [← of_decide_eq_true e]; exact h) hn
    · exact ih
theorem Acc.more {p : Nat} {y : List Deed} {d : Deed} (hf : hdOf d ∈ free) (a : Acc free told p y) : Acc free told p (y ++ [d]) := by
  induction a with
  | done => exact .free hf .done
  | hit h r ih => exact .hit h ih
  | free h r ih => exact .free h ih
/-- a year, and the year with one deed more: both are let only if that deed's kind is free -/
theorem more_free {y : List Deed} {d : Deed} (a : Acc free told 0 y) (b : Acc free told 0 (y ++ [d])) : hdOf d ∈ free := by
  refine Decidable.byContradiction fun hn => ?_
  have h1 := a.count hn
  have h2 := b.count hn
  rw [List.filter_append, List.length_append] at h2
  have : ([d].filter fun e => decide (hdOf e = hdOf d)).length = 1 := by simp
  omega
end
/-- one entry within another: what is free in the one is free in the other, and the other lets what the one tells -/
def withinP (free1 : List Str) (told1 : List Deed) (free2 : List Str) (told2 : List Deed) : Bool := (free1.all fun n => decide (n ∈ free2)) && letsP free2 told2 0 told1
/-- the law's years that tell: what is told, and that with one deed of each free kind -/
def probesOf (mk : Str → Deed) (free1 : List Str) (told1 : List Deed) : List (List Deed) := told1 :: free1.map fun n => told1 ++ [mk n]
theorem within_same {mk : Str → Deed} (hmk : ∀ n, hdOf (mk n) = n) (free1 : List Str) (told1 : List Deed) (free2 : List Str) (told2 : List Deed) : withinP free1 told1 free2 told2 = (probesOf mk free1 told1).all fun y => letsL free2 told2 y := by
  rw [Bool.eq_iff_iff]
  unfold withinP probesOf
  rw [Bool.and_eq_true, List.all_cons, Bool.and_eq_true, lets_same, List.all_map, List.all_eq_true, List.all_eq_true]
  refine ⟨fun ⟨h1, h2⟩ => ⟨h2, fun n hn => ?_⟩, fun ⟨h2, h1⟩ => ⟨fun n hn => ?_, h2⟩⟩
  · refine letsL_acc.mpr ((letsL_acc.mp h2).more ?_)
    rw [hmk]
    exact of_decide_eq_true (h1 n hn)
  · have := more_free (letsL_acc.mp h2) (letsL_acc.mp (h1 n hn))
    rw [hmk] at this
    exact decide_eq_true this
end Kx

set_option maxHeartbeats 4000000
namespace Kx
open PySem
/-! abstracts: what fills one, what lies within what -/
inductive Ew where | known | without | unknown | noted | holding
  deriving DecidableEq
structure En where
  w : Ew
  names : List Str
  told : List Deed
def freeE (kn : List Str) (e : En) : List Str := if e.w = .known then [] else kn.filter fun n => decide (¬ n ∈ e.names)
theorem zip_all {α β : Type} {f : α × β → Bool} : ∀ {as : List α} {bs : List β}, ((as.zip bs).all f = true) ↔ ∀ (i : Nat) (a : α) (b : β), as[i]? = some a → bs[i]? = some b → f (a, b) = true
  | [], _ => ⟨fun _ i a b h => (by simp at h), fun _ => rfl⟩
  | _ :: _, [] => ⟨fun _ i a b _ h => (by simp at h), fun _ => rfl⟩
  | x :: as, y :: bs => by
    rw [List.zip_cons_cons, List.all_cons, Bool.and_eq_true, zip_all]
    refine ⟨fun ⟨h1, h2⟩ i a b ha hb => ?_, fun h => ⟨h 0 x y rfl rfl, fun i a b ha hb => h (i + 1) a b ha hb⟩⟩
    cases i with
    | zero =>
      cases ha
      cases hb
      exact h1
    | succ i => exact h2 i a b ha hb
/-- years fill entries: as many at the least, no more where the whole is told, each of the last ones let -/
def fillsA (kn : List Str) (es : List En) (whole : Bool) (ys : List (List Deed)) : Bool :=
  if ys.length < es.length ∨ (whole = true ∧ es.length < ys.length) then false else (es.zip (ys.drop (ys.length - es.length))).all fun p => letsL (freeE kn p.1) p.1.told p.2
theorem fillsA_iff {kn : List Str} {es : List En} {whole : Bool} {ys : List (List Deed)} : fillsA kn es whole ys = true ↔ es.length ≤ ys.length ∧ (whole = true → ys.length = es.length) ∧ ∀ (i : Nat) (e : En) (y : List Deed), es[i]? = some e → ys[ys.length - es.length + i]? = some y → letsL (freeE kn e) e.told y = true := by
  unfold fillsA
  by_cases h : ys.length < es.length ∨ (whole = true ∧ es.length < ys.length)
  · rw [if_pos h]
    refine ⟨(fun z => nomatch z), fun ⟨h1, h2, _⟩ => ?_⟩
    rcases h with h | ⟨h, h'⟩
    · omega
    · have := h2 h
      omega
  · rw [if_neg h, zip_all]
    have h1 : es.length ≤ ys.length := Nat.le_of_not_lt fun z => h (.inl z)
    have h2 : whole = true → ys.length = es.length := fun w => by
      have : ¬ es.length < ys.length := fun z => h (.inr ⟨w, z⟩)
      omega
    refine ⟨fun q => ⟨h1, h2, fun i e y he hy => q i e y he ?_⟩, fun ⟨_, _, q⟩ i e y he hy => q i e y he ?_⟩
    · rw [List.getElem?_drop]; exact hy
    · rw [List.getElem?_drop] at hy; exact hy
/-- the programme's is_within -/
def withinA (kn : List Str) (one : List En) (w1 : Bool) (other : List En) (w2 : Bool) : Bool :=
  if one.length < other.length then false else if w2 = true ∧ ¬ (w1 = true ∧ one.length = other.length) then false
  else ((one.drop (one.length - other.length)).zip other).all fun p => withinP (freeE kn p.1) p.1.told (freeE kn p.2) p.2.told
theorem withinA_iff {kn : List Str} {one other : List En} {w1 w2 : Bool} : withinA kn one w1 other w2 = true ↔ other.length ≤ one.length ∧ (w2 = true → w1 = true ∧ one.length = other.length) ∧
    ∀ (i : Nat) (a e : En), one[one.length - other.length + i]? = some a → other[i]? = some e → withinP (freeE kn a) a.told (freeE kn e) e.told = true := by
  unfold withinA
  by_cases h : one.length < other.length
  · rw [if_pos h]
    exact ⟨(fun z => nomatch z), fun ⟨h1, _⟩ => absurd h1 (by omega)⟩
  rw [if_neg h]
  by_cases h2 : w2 = true ∧ ¬ (w1 = true ∧ one.length = other.length)
  · rw [if_pos h2]
    exact ⟨(fun z => nomatch z), fun ⟨_, q, _⟩ => absurd (q h2.1) h2.2⟩
  rw [if_neg h2, zip_all]
  have h3 : w2 = true → w1 = true ∧ one.length = other.length := fun w => Decidable.byContradiction fun z => h2 ⟨w, z⟩
  refine ⟨fun q => ⟨by omega, h3, fun i a e ha he => q i a e ?_ he⟩, fun ⟨_, _, q⟩ i a e ha he => q i a e ?_ he⟩
  · rw [List.getElem?_drop]; exact ha
  · rw [List.getElem?_drop] at ha; exact ha
/-- the law's rows of years: the told ones alone, with an empty year ahead where the whole isn't told, and each entry's probes -/
def rowsOf (mk : Str → Deed) (kn : List Str) (one : List En) (w1 : Bool) : List (List (List Deed)) :=
  (one.map (·.told)) :: ((if w1 = true then [] else [[] :: one.map (·.told)]) ++ (List.range one.length).flatMap fun k => match one[k]? with
    | some e => (probesOf mk (freeE kn e) e.told).map fun pr => (one.map (·.told)).set k pr
    | none => [])
theorem mem_rows {mk : Str → Deed} {kn : List Str} {one : List En} {w1 : Bool} {r : List (List Deed)} : r ∈ rowsOf mk kn one w1 ↔ r = one.map (·.told) ∨ (w1 = false ∧ r = [] :: one.map (·.told)) ∨ ∃ k e pr, one[k]? = some e ∧ pr ∈ probesOf mk (freeE kn e) e.told ∧ r = (one.map (·.told)).set k pr := by
  unfold rowsOf
  rw [List.mem_cons, List.mem_append, List.mem_flatMap]
  refine or_congr Iff.rfl (or_congr ?_ ?_)
  · cases w1 with
    | true => simp
    | false => simp
  · refine ⟨fun ⟨k, hk, h⟩ => ?_, fun ⟨k, e, pr, he, hp, hr⟩ => ⟨k, List.mem_range.mpr (List.getElem?_eq_some_iff.mp he).1, ?_⟩⟩
    · cases he : one[k]? with
      | none => rw [he] at h; cases h
      | some e =>
        rw [he] at h
        obtain ⟨pr, hp, rfl⟩ := List.mem_map.mp h
        exact ⟨k, e, pr, he, hp, rfl⟩
    · rw [he]
      exact List.mem_map.mpr ⟨pr, hp, hr.symm⟩
theorem abstract_within_same {mk : Str → Deed} (hmk : ∀ n, hdOf (mk n) = n) (kn : List Str) (one : List En) (w1 : Bool) (other : List En) (w2 : Bool) : withinA kn one w1 other w2 = (rowsOf mk kn one w1).all fun r => fillsA kn other w2 r := by
  rw [Bool.eq_iff_iff, withinA_iff, List.all_eq_true]
  have lb : (one.map (·.told)).length = one.length := List.length_map ..
  refine ⟨fun ⟨h1, h2, h3⟩ r hr => ?_, fun h => ?_⟩
  · have at_ : ∀ (i : Nat) (e : En) (y : List Deed), other[i]? = some e → (one.map (·.told))[one.length - other.length + i]? = some y → letsL (freeE kn e) e.told y = true := fun i e y he hy => by
      rw [List.getElem?_map] at hy
      obtain ⟨a, ha, rfl⟩ := Option.map_eq_some_iff.mp hy
      have q := h3 i a e ha he
      rw [within_same hmk, List.all_eq_true] at q
      exact q _ (.head _)
    rw [fillsA_iff]
    rcases mem_rows.mp hr with rfl | ⟨hw, rfl⟩ | ⟨k, e0, pr, he0, hp, rfl⟩
    · exact ⟨by omega, fun w => by have := (h2 w).2; omega, fun i e y he hy => at_ i e y he (by rw [lb] at hy; exact hy)⟩
    · refine ⟨by rw [List.length_cons]; omega, fun w => ?_, fun i e y he hy => at_ i e y he ?_⟩
      · rw [hw] at h2
        exact absurd (h2 w).1 Bool.false_ne_true
      · rw [List.length_cons, lb, show one.length + 1 - other.length + i = (one.length - other.length + i) + 1 by omega] at hy
        exact hy
    · refine ⟨by rw [List.length_set]; omega, fun w => by rw [List.length_set]; have := (h2 w).2; omega, fun i e y he hy => ?_⟩
      rw [List.length_set, lb] at hy
      by_cases hk : k = one.length - other.length + i
      · subst hk
        have lt := (List.getElem?_eq_some_iff.mp he0).1
        rw [List.getElem?_set_self (by omega)] at hy
        cases hy
        have q := h3 i e0 e he0 he
        rw [within_same hmk, List.all_eq_true] at q
        exact q _ hp
      · rw [List.getElem?_set_ne hk] at hy
        exact at_ i e y he hy
  · obtain ⟨b1, b2, _⟩ := fillsA_iff.mp (h _ (mem_rows.mpr (.inl rfl)))
    rw [lb] at b1 b2
    refine ⟨b1, fun w => ⟨?_, b2 w⟩, fun i a e ha he => ?_⟩
    · cases hw : w1 with
      | true => rfl
      | false =>
        obtain ⟨_, c2, _⟩ := fillsA_iff.mp (h _ (mem_rows.mpr (.inr (.inl ⟨hw, rfl⟩))))
        have e1 := b2 w
        have e2 := c2 w
        rw [List.length_cons, lb] at e2
        omega
    · rw [within_same hmk, List.all_eq_true]
      intro pr hp
      obtain ⟨_, _, c3⟩ := fillsA_iff.mp (h _ (mem_rows.mpr (.inr (.inr ⟨_, a, pr, ha, hp, rfl⟩))))
      have lt := (List.getElem?_eq_some_iff.mp ha).1
      refine c3 i e pr he ?_
      rw [List.length_set, lb, List.getElem?_set_self (by omega)]
end Kx

set_option maxHeartbeats 8000000
namespace Kx
open PySem L2
/-! told deeds, names of kinds, the other kinds -/
/-- a deed as it may be told -/
def Sx (H : Hp) (x : V) (z : List Str) : Prop := Ss .lst H x z ∨ Ss .tup H x z
theorem Sx.keep {H H' : Hp} {x : V} {z : List Str} (h : Sx H x z) (s : Same H H') : Sx H' x z := h.imp (fun q => q.keep s) fun q => q.keep s
theorem Sx.sq {K : PySem.W.Frag} {H : Hp} {x : V} {z : List Str} (h : Sx H x z) : SeqQ K H x true := by
  rcases h with ⟨a, rfl, h⟩ | ⟨a, rfl, h⟩
  · exact ⟨"list", by decide, rfl, fun H' s => .base (.lst (s _ _ h))⟩
  · exact ⟨"tuple", by decide, rfl, fun H' s => .base (.tup (s _ _ h))⟩
structure Am (mg : Str → Option Value) : Prop where
  all : mg "all" = none
def spToldDeeds (K : PySem.W.Frag) : Sp := fun vs H Q _ => ∃ (a : Addr) (xs : List V) (ds : List (List Str)), vs = [.ref a] ∧ IsSeq K H a xs ∧ Paired (Sx H) xs ds ∧ ds.length ≤ 1000 ∧ ∀ t H', Same H H' → Ds .tup H' (.ref t) ds → Q (.ref t) H'
abbrev nToldDeeds : List Str := ["deeds", "deed"]
section
variable {P : Program} {w : World} {K : PySem.W.Frag} {mg : Str → Option Value} {base : Heap}
theorem scToldDeeds : FnScope nToldDeeds ["deeds"] (defScope sToldDeeds) := ⟨rfl, rfl, rfl, by decide +kernel, rfl, by decide +kernel, by decide +kernel⟩
theorem ok_tolddeeds {f : Addr} {fd : FuncData} (F : Fun K "_told_deeds" "_told_deeds" sToldDeeds f fd) (m : mg "_told_deeds" = some (.ref f)) (B : Bm mg) (A : Am mg) (Sq : HasF P w K mg base "is_sequence" 1 ["thing"] (spSeqK K)) : HasF P w K mg base "_told_deeds" 2 ["deeds"] (spToldDeeds K) := by
  refine ⟨f, fd, ?_, m, F.kp, F.binds fun _ _ _ _ _ _ us hl => match us, hl with | [_], _ => rfl⟩
  obtain ⟨f1, fd1, Sq⟩ := Sq
  refine F.ok scToldDeeds (fun vs H Q E h => ?_) (fun cdv A' outer s H vs Q E hr h => ?_)
  · obtain ⟨a, b, c, rfl, _⟩ := h
    rfl
  · obtain ⟨a, xs, ds, rfl, ha, px, n, k⟩ := h
    have lx := Paired.length px
    refine ⟨_, (pss_cons (ps_if (PW.pt (pw_or (pt_not (pt_val (pe_call Sq.G hr (by rfl) Sq.m Sq.kp Sq.b .nil pass0 (pa_cons (pv 0) pa_nil)))) (pw_or1 (pt_not (pt_val (pe_callB (cr_all rfl) (by rfl) A.all (by decide +kernel) (pa_cons (pe_lc (own := [("deed", 1)]) (g := gName 1) (tt := tYes) (by rfl) scToldDeeds.nd (pi_seq (pv 0)) (blkOk_by (own := [("deed", 1)]) (N := nToldDeeds) (sc := defScope sToldDeeds) (by decide +kernel)) (fun _ _ _ _ _ => pg_name (i := 1) scToldDeeds.nd rfl (Or.inl rfl)) (fun _ _ _ _ _ => pts_nil) (fun _ _ _ _ _ => (pe_call Sq.G hr (by rfl) Sq.m Sq.kp Sq.b .nil pass0 (pa_cons (pv 1) pa_nil)))) pa_nil))))))) pss_never pss_nil)
    (pss_one (ps_ret (pe_callTy call_tuple_of (by rfl) B.tuple (by decide +kernel) (pa_cons (pe_lc (own := [("deed", 1)]) (g := gName 1) (tt := tYes) (by rfl) scToldDeeds.nd (pi_seq (pv 0)) (blkOk_by (own := [("deed", 1)]) (N := nToldDeeds) (sc := defScope sToldDeeds) (by decide +kernel)) (fun _ _ _ _ _ => pg_name (i := 1) scToldDeeds.nd rfl (Or.inl rfl)) (fun _ _ _ _ _ => pts_nil) (fun _ _ _ _ _ => (pe_callTy (call_tupK (K := K) rfl) (by rfl) B.tuple (by decide +kernel) (pa_cons (pv 1) pa_nil)))) pa_nil))))), ?_⟩
    obtain ⟨tn, t1, t2, t3⟩ := ha.ty
    refine ⟨_, rfl, .ref a, true, rfl, ⟨tn, t1, t2, t3⟩, fun H1 s1 => ⟨_, rfl, iteF ?_⟩⟩
    refine ⟨_, rfl, a, rfl, lc_pure (g := gName 1) (fun j v H' => v = .bl true) (fun j v H' H'' q s => q) (ha.keep s1) (Same.refl _) (by omega) ?_ ?_ fun x σ H Q Q' q z => q _ _ z⟩
    · rintro D i x H3 k' hi hD s3 ⟨acc, hacc⟩ kk
      obtain ⟨d, hd, dx⟩ := pr_get px hi
      refine ⟨rfl, ?_⟩
      exact ⟨_, rfl, x, true, rfl, (dx.keep (s1.trans s3)).sq, fun H4 s4 => kk _ _ s4 rfl⟩
    · intro D zs H3 hD s3 hd3 lz g3
      have ez : zs = (List.replicate xs.length true).map V.bl := by
        rw [List.map_replicate]
        exact List.eq_replicate_iff.mpr ⟨lz, fun v hv => by
          obtain ⟨j, hj⟩ := List.mem_iff_getElem?.mp hv
          exact g3 j v hj⟩
      refine ⟨D, List.replicate xs.length true, rfl, by rw [← ez]; exact SqL.of hd3, _, rfl, ?_⟩
      rw [show (List.replicate xs.length true).all id = true by simp]
      refine iteF ?_
      have s13 := s1.trans s3
      refine ⟨_, rfl, a, rfl, lc_pure (g := gName 1) (fun j v H' => ∀ d, ds[j]? = some d → Ss .tup H' v d) (fun j v H' H'' q s d e => (q d e).keep s) (ha.keep s13) (Same.refl _) (by omega) ?_ ?_ fun x σ H Q Q' q z => q _ _ z⟩
      · rintro D2 i x H4 k2 hi hD2 s4 ⟨acc2, hacc2⟩ kk2
        obtain ⟨d, hd, dx⟩ := pr_get px hi
        refine ⟨rfl, ?_⟩
        rcases dx.keep (s13.trans s4) with ⟨db, rfl, hdb⟩ | ⟨db, rfl, hdb⟩
        · refine ⟨_, rfl, db, _, rfl, .inl ⟨SqL.of hdb, fun l hl => kk2 _ _ (sameUpd (Same.refl _) hl) fun d' e => ?_⟩⟩
          rw [hd] at e
          cases e
          exact ⟨l, rfl, wo_at upd_same (ne_of_none hacc2 hl).symm⟩
        · refine ⟨_, rfl, db, _, rfl, .inr ⟨SqT.of hdb, kk2 _ _ (Same.refl _) fun d' e => ?_⟩⟩
          rw [hd] at e
          cases e
          exact ⟨db, rfl, wo_at hdb fun z => by rw [z, hacc2] at hdb; cases hdb⟩
      · intro D2 zs2 H4 hD2 s4 hd2 lz2 g2
        refine ⟨D2, zs2, rfl, .inl ⟨SqL.of hd2, fun l hl => ?_⟩⟩
        have s5 : Same H (upd H4 l (.tup zs2)) := sameUpd (s13.trans s4) hl
        refine k l _ s5 ⟨l, zs2, rfl, upd_same, pr_of (by omega) fun j v d e1 e2 => ?_⟩
        exact (g2 j v e1 d e2).keep (wo_same.trans (sameUpd (Same.refl _) hl))
end
end Kx

set_option maxHeartbeats 8000000
namespace Kx
open PySem L2
/-! _kind_names: of a list of distinct labels; _others -/
def spKindNames : Sp := fun vs H Q _ => ∃ (a : Addr) (ns : List Str), vs = [.ref a] ∧ H a = some (.lst (ns.map V.str)) ∧ ns.Nodup ∧ (∀ n ∈ ns, isLab n = true) ∧ ns.length ≤ 1000 ∧ ∀ t H', Same H H' → H' t = some (.tup (ns.map V.str)) → Q (.ref t) H'
theorem cut_takeA (xs : List V) (m : Nat) : cutV xs none (some (m : Int)) = xs.take m := by
  unfold cutV
  have e1 : HT.sIx xs.length 0 none = 0 := rfl
  rw [e1, HT.sIx_nat, List.drop_zero, Nat.sub_zero]
  rcases Nat.le_total m xs.length with h | h
  · rw [Nat.min_eq_left h]
  · rw [Nat.min_eq_right h, List.take_length, List.take_of_length_le h]
def othersOf (kn ns : List Str) : List Str := kn.filter fun n => decide (¬ n ∈ ns)
def spOthers (CK : Addr) : Sp := fun vs H Q _ => ∃ (kp b : Addr) (ks : List (Str × Int)) (ns : List Str), vs = [.ref kp, .ref b] ∧ KindsAt CK H kp (vv ks) ∧ H b = some (.tup (ns.map V.str)) ∧ ks.length ≤ 1000 ∧ ∀ t H', Same H H' → H' t = some (.tup ((othersOf (ks.map (·.1)) ns).map V.str)) → Q (.ref t) H'
theorem flat_strs : ∀ ns : List Str, (ns.map V.str).all flatV = true
  | [] => rfl
  | _ :: ns => flat_strs ns
theorem lab_len {z : Str} (h : isLab z = true) : z.length ≤ sizeLine := Nat.le_of_lt (small1000 (by have := (lab_low h).2; omega))
theorem nodup_take {ns : List Str} (h : ns.Nodup) {i : Nat} {z : Str} (e : ns[i]? = some z) : ¬ z ∈ ns.take i := fun m => by
  obtain ⟨j, hj⟩ := List.mem_iff_getElem?.mp m
  rw [List.getElem?_take] at hj
  split at hj
  · rename_i lt
    have := (List.getElem?_inj (List.getElem?_eq_some_iff.mp hj).1 h).mp (hj.trans e.symm)
    omega
  · cases hj
section
variable {P : Program} {w : World} {K : PySem.W.Frag} {mg : Str → Option Value} {base : Heap}
theorem scKindNames : FnScope ["names", "index", "name"] ["names"] (defScope sKindNames) := ⟨rfl, rfl, rfl, by decide +kernel, rfl, by decide +kernel, by decide +kernel⟩
theorem ok_kindnames {f : Addr} {fd : FuncData} (F : Fun K "_kind_names" "_kind_names" sKindNames f fd) (m : mg "_kind_names" = some (.ref f)) (T : Bl mg) (B : Bm mg) (Sq : HasF P w K mg base "is_sequence" 1 ["thing"] (spSeqK K)) (L : HasF P w K mg base "is_label" 1 ["thing"] spLabel) : HasF P w K mg base "_kind_names" 2 ["names"] spKindNames := by
  refine ⟨f, fd, ?_, m, F.kp, F.binds fun _ _ _ _ _ _ us hl => match us, hl with | [_], _ => rfl⟩
  obtain ⟨f1, fd1, Sq⟩ := Sq; obtain ⟨f2, fd2, L⟩ := L
  refine F.ok scKindNames (fun vs H Q E h => ?_) (fun cdv A' outer s H vs Q E hr h => ?_)
  · obtain ⟨a, b, rfl, _⟩ := h
    rfl
  · obtain ⟨a, ns, rfl, ha, nd, lab, nn, k⟩ := h
    refine ⟨_, (pss_cons (ps_if (pt_not (pt_val (pe_call Sq.G hr (by rfl) Sq.m Sq.kp Sq.b .nil pass0 (pa_cons (pv 0) pa_nil)))) pss_never pss_nil)
    (pss_cons (ps_for PassesOwn.never rfl (pi_enumB (by rfl) T.enumerate (pa_cons (pv 0) pa_nil)) (pg_tup rfl (pgs_cons (pg_name (i := 1) scKindNames.nd rfl (Or.inl rfl)) (pgs_cons (pg_name (i := 2) scKindNames.nd rfl (Or.inl rfl)) pgs_nil)))
        (pss_one (ps_if (PW.pt (pw_or (pt_not (pt_val (pe_call L.G hr (by rfl) L.m L.kp L.b .nil pass0 (pa_cons (pv 2) pa_nil)))) (pw_or1 (pt_cmpR op_in_seq (pv 2) (pe_slice sl_list (pv 0) po_none (po_some (pv 1))) (by rfl))))) pss_never pss_nil)))
    (pss_one (ps_ret (pe_callTy call_tuple_of (by rfl) B.tuple (by decide +kernel) (pa_cons (pv 0) pa_nil)))))), ?_⟩
    refine ⟨_, rfl, .ref a, true, rfl, ⟨"list", by decide, rfl, fun H' s => .base (.lst (s _ _ ha))⟩, fun H1 s1 => ⟨_, rfl, iteF ?_⟩⟩
    refine ⟨_, rfl, a, _, rfl, for_enumB (K := K) (a := a) (xs := ns.map V.str) (fun i σ H2 => ∃ v1 v2 : Option V, σ = [some (.ref a), v1, v2] ∧ Same H1 H2) ⟨_, _, rfl, Same.refl _⟩ (.inl fun i σ H2 ⟨_, _, _, s⟩ => SqL.of (s _ _ (s1 _ _ ha))) ?_ ?_⟩
    · rintro i x σ H2 t hi ⟨v1, v2, rfl, s2⟩ ht
      rw [List.getElem?_map] at hi
      obtain ⟨z, hz, rfl⟩ := Option.map_eq_some_iff.mp hi
      have lt := (List.getElem?_eq_some_iff.mp hz).1
      have lz := lab z (List.mem_of_getElem? hz)
      have s3 : Same H1 (upd H2 t (.tup [.int (i : Nat), .str z])) := sameUpd s2 ht
      refine ⟨t, _, rfl, SqT.of upd_same, rfl, _, _, rfl, _, _, rfl, rfl, ?_⟩
      refine ⟨_, rfl, .str z, "str", rfl, .str z, (fun y e => by cases e; exact lab_len lz), _, rfl, ?_⟩
      rw [show labV (.str z) = true from lz]
      refine iteF ?_
      refine ⟨_, rfl, _, rfl, _, rfl, _, rfl, a, _, rfl, SqL.of (s3 _ _ (s1 _ _ ha)), fun l hl => ?_⟩
      have s4 := sameUpd (o := .lst (cutV (ns.map V.str) none (some (i : Nat)))) s3 hl
      have ec : cutV (ns.map V.str) none (some ((i : Nat) : Int)) = (ns.take i).map V.str := by rw [cut_takeA, List.map_take]
      rw [ec] at s4 ⊢
      refine ⟨l, _, rfl, .inl (SqL.of upd_same), rfl, flat_strs _, _, rfl, ?_⟩
      rw [if_neg Bool.false_ne_true, inV_strs, decide_eq_false (nodup_take nd hz)]
      exact iteF ⟨_, _, rfl, s4⟩
    · rintro σ H2 ⟨v1, v2, rfl, s2⟩
      have s12 := s1.trans s2
      refine ⟨_, rfl, a, _, rfl, .inl ⟨SqL.of (s12 _ _ ha), fun l hl => ?_⟩⟩
      exact k l _ (sameUpd s12 hl) upd_same
theorem scOthers : FnScope ["kinds", "names", "name"] ["kinds", "names"] (defScope sOthers) := ⟨rfl, rfl, rfl, by decide +kernel, rfl, by decide +kernel, by decide +kernel⟩
theorem ok_others {f CK : Addr} {fd : FuncData} (F : Fun K "_others" "_others" sOthers f fd) (m : mg "_others" = some (.ref f)) (B : Bm mg) (KX : KC K CK) : HasF P w K mg base "_others" 1 ["kinds", "names"] (spOthers CK) := by
  refine ⟨f, fd, ?_, m, F.kp, F.binds fun _ _ _ _ _ _ us hl => match us, hl with | [_, _], _ => rfl⟩
  refine F.ok scOthers (fun vs H Q E h => ?_) (fun cdv A' outer s H vs Q E hr h => ?_)
  · obtain ⟨a, b, c, d, rfl, _⟩ := h
    rfl
  · obtain ⟨kp, b, ks, ns, rfl, hk, hb, n, k⟩ := h
    obtain ⟨kdx, kfs, _, nr, _, _, i1, _, i3, _, _, _, _, _, i9, _⟩ := hk.get (K := K)
    refine ⟨_, pss_one (ps_ret (pe_callTy call_tuple_of (by rfl) B.tuple (by decide +kernel) (pa_cons (pe_lc (own := [("name", 2)]) (g := gName 2) (by rfl) scOthers.nd (pi_seq (pe_fld (pv 0) rfl)) (blkOk_by (own := [("name", 2)]) (N := ["kinds", "names", "name"]) (sc := defScope sOthers) (by decide +kernel)) (fun _ _ _ _ _ => pg_name (i := 2) scOthers.nd rfl (Or.inl rfl)) (fun _ _ _ _ _ => pts_one (t := tTest (tOp (rIn K true) (tVar 2) (tVar 1))) (pt_cmpR (X := _) op_notIn_seq (pv 2) (pv 1) (by rfl))) (fun _ _ _ _ _ => (pv 2))) pa_nil))), ?_⟩
    have e9 : (ks.map fun q => V.str q.1) = (ks.map (·.1)).map V.str := by rw [List.map_map]; rfl
    rw [e9] at i9
    refine ⟨_, rfl, kp, CK, kdx, kfs, _, rfl, i1, KX.cl, KX.nN, i3, nr, rfl, lc_sq (IsSeq.tup i9) (Same.refl _) fun D hD => ⟨fun i H' => Same H H' ∧ H' D = some (.lst ((othersOf ((ks.map (·.1)).take i) ns).map V.str)), ⟨sameUpd (Same.refl _) hD, upd_same⟩, fun i H' p => p.1, ?_, ?_⟩⟩
    · rintro i x H3 hi ⟨s3, hd⟩
      rw [List.getElem?_map] at hi
      obtain ⟨z, hz, rfl⟩ := Option.map_eq_some_iff.mp hi
      have lt := (List.getElem?_eq_some_iff.mp hz).1
      rw [List.length_map] at lt
      refine ⟨rfl, ?_⟩
      refine ⟨_, rfl, _, rfl, b, _, rfl, .inr (SqT.of (s3 _ _ hb)), rfl, flat_strs _, _, rfl, ?_⟩
      rw [if_pos rfl, inV_strs]
      have st : othersOf ((ks.map (·.1)).take (i + 1)) ns = othersOf ((ks.map (·.1)).take i) ns ++ othersOf [z] ns := by
        unfold othersOf
        rw [take_succ_of hz, List.filter_append]
      by_cases hm : z ∈ ns
      · rw [decide_eq_true hm]
        refine iteF ⟨s3, ?_⟩
        rw [st, show othersOf [z] ns = [] by simp [othersOf, hm], List.append_nil]
        exact hd
      · rw [decide_eq_false hm]
        have ln : (othersOf ((ks.map (·.1)).take i) ns).length ≤ 1000 := Nat.le_trans (List.length_filter_le _ _) (by rw [List.length_take]; omega)
        refine iteT ⟨_, rfl, _, hd, small1000 (by rw [List.length_map]; omega), woD hD s3 (Same.refl _), ?_⟩
        rw [upd_same, st, show othersOf [z] ns = [z] by simp [othersOf, hm], List.map_append]
        rfl
    · rintro H3 ⟨s3, hd⟩
      rw [List.length_map, List.take_length] at hd
      refine ⟨D, _, rfl, .inl ⟨SqL.of hd, fun l hl => ?_⟩⟩
      exact k l _ (sameUpd s3 hl) upd_same
end
end Kx

set_option maxHeartbeats 8000000
namespace Kx
open PySem L2
/-! the five entries: what one is, how it is made of good parts -/
structure EnAt (Cs : Ew → Addr) (H : Hp) (p : Addr) (e : En) : Prop where
  ex : ∃ (dx : Addr) (fs : List (Str × V)) (t n : Addr), H p = some (.ins (Cs e.w) dx fs) ∧ fs.lookup ("told" : Str) = some (.ref t) ∧ fs.lookup ("names" : Str) = some (.ref n) ∧ (∀ m : Str, ¬ m = Str.ofString "told" → ¬ m = Str.ofString "names" → fs.lookup m = none) ∧
    Ds .tup H (.ref t) e.told ∧ H n = some (.tup (e.names.map V.str))
theorem EnAt.keep {Cs : Ew → Addr} {H H' : Hp} {p : Addr} {e : En} (h : EnAt Cs H p e) (s : Same H H') : EnAt Cs H' p e := by
  obtain ⟨dx, fs, t, n, h1, h2, h3, h4, h5, h6⟩ := h.ex
  exact ⟨dx, fs, t, n, s _ _ h1, h2, h3, h4, h5.keep s, s _ _ h6⟩
/-- what a class of entries must have -/
structure EC (K : PySem.W.Frag) (C : Addr) : Prop where
  cl : Cls K C
  nT : NoAttr K C "told"
  nN : NoAttr K C "names"
theorem s_tn : ¬ (Str.ofString "told") = Str.ofString "names" := by decide +kernel
theorem s_nt : ¬ (Str.ofString "names") = Str.ofString "told" := by decide +kernel
def tnFs (t n : V) : List (Str × V) := putF "names" n (putF "told" t [])
def ntFs (t n : V) : List (Str × V) := putF "told" t (putF "names" n [])
theorem tnFs_t (t n : V) : (tnFs t n).lookup ("told" : Str) = some t := by unfold tnFs; rw [lookup_putF, if_neg s_tn, lookup_putF, if_pos rfl]
theorem tnFs_n (t n : V) : (tnFs t n).lookup ("names" : Str) = some n := by unfold tnFs; rw [lookup_putF, if_pos rfl]
theorem tnFs_no (t n : V) {m : Str} (h1 : ¬ m = Str.ofString "told") (h2 : ¬ m = Str.ofString "names") : (tnFs t n).lookup m = none := by
  unfold tnFs
  rw [lookup_putF, if_neg h2, lookup_putF, if_neg h1]
  rfl
theorem ntFs_t (t n : V) : (ntFs t n).lookup ("told" : Str) = some t := by unfold ntFs; rw [lookup_putF, if_pos rfl]
theorem ntFs_n (t n : V) : (ntFs t n).lookup ("names" : Str) = some n := by unfold ntFs; rw [lookup_putF, if_neg s_nt, lookup_putF, if_pos rfl]
theorem ntFs_no (t n : V) {m : Str} (h1 : ¬ m = Str.ofString "told") (h2 : ¬ m = Str.ofString "names") : (ntFs t n).lookup m = none := by
  unfold ntFs
  rw [lookup_putF, if_neg h1, lookup_putF, if_neg h2]
  rfl
/-- all but what stands at p is kept -/
abbrev But (p : Addr) (H H' : Hp) : Prop := ∀ c o, H c = some o → c ≠ p → H' c = some o
theorem But.upd {p : Addr} {H H' : Hp} {o : HO} (b : But p H H') : But p H (upd H' p o) := fun c u e n => by rw [upd_ne n]; exact b c u e n
theorem But.new {p u : Addr} {H H' : Hp} {o : HO} (b : But p H H') (hu : H' u = none) : But p H (L2.upd H' u o) := fun c v e n => by rw [upd_ne (ne_of_none (b c v e n) hu)]; exact b c v e n
theorem But.then {p : Addr} {H H' H2 : Hp} (b : But p H H') (s : Same H' H2) : But p H H2 := fun c u e n => s _ _ (b c u e n)
theorem But.of {p : Addr} {H H' : Hp} (s : Same H H') : But p H H' := fun c u e _ => s c u e
theorem Ss.but {H H' : Hp} {p C dx : Addr} {fs : List (Str × V)} {x : V} {z : List Str} (h : Ss .tup H x z) (hp : H p = some (.ins C dx fs)) (b : But p H H') : Ss .tup H' x z := by
  obtain ⟨a, rfl, ha⟩ := h
  exact ⟨a, rfl, b _ _ ha fun z => by rw [z, hp] at ha; cases ha⟩
theorem Ds.but {H H' : Hp} {p C dx : Addr} {fs : List (Str × V)} {x : V} {y : List (List Str)} (h : Ds .tup H x y) (hp : H p = some (.ins C dx fs)) (b : But p H H') : Ds .tup H' x y := by
  obtain ⟨a, xs, rfl, ha, px⟩ := h
  exact ⟨a, xs, rfl, b _ _ ha (fun z => by rw [z, hp] at ha; cases ha), pr_imp px fun _ _ q => q.but hp b⟩
theorem Sx.off {H : Hp} {p C dx : Addr} {fs : List (Str × V)} {x : V} {z : List Str} (h : Sx H x z) (hp : H p = some (.ins C dx fs)) : Sx (wo p H) x z := by
  rcases h with ⟨a, rfl, g⟩ | ⟨a, rfl, g⟩
  · exact .inl ⟨a, rfl, wo_at g fun y => by rw [y, hp] at g; cases g⟩
  · exact .inr ⟨a, rfl, wo_at g fun y => by rw [y, hp] at g; cases g⟩
def spEnD (K : PySem.W.Frag) (Cs : Ew → Addr) (w : Ew) : Sp := fun vs H Q _ => ∃ (p dx b : Addr) (xs : List V) (ds : List (List Str)), vs = [.ref p, .ref b] ∧ H p = some (.ins (Cs w) dx []) ∧ IsSeq K H b xs ∧ Paired (Sx H) xs ds ∧ ds.length ≤ 1000 ∧ ∀ H', But p H H' → EnAt Cs H' p ⟨w, [], ds⟩ → Q .non H'
def spEnN (Cs : Ew → Addr) : Sp := fun vs H Q _ => ∃ (p dx b : Addr) (ns : List Str), vs = [.ref p, .ref b] ∧ H p = some (.ins (Cs .without) dx []) ∧ H b = some (.lst (ns.map V.str)) ∧ ns.Nodup ∧ (∀ n ∈ ns, isLab n = true) ∧ ns.length ≤ 1000 ∧ ∀ H', But p H H' → EnAt Cs H' p ⟨.without, ns, []⟩ → Q .non H'
def spEnU (Cs : Ew → Addr) : Sp := fun vs H Q _ => ∃ (p dx : Addr), vs = [.ref p] ∧ H p = some (.ins (Cs .unknown) dx []) ∧ ∀ H', But p H H' → EnAt Cs H' p ⟨.unknown, [], []⟩ → Q .non H'
def spEnB (K : PySem.W.Frag) (Cs : Ew → Addr) : Sp := fun vs H Q _ => ∃ (p dx b c : Addr) (ns : List Str) (xs : List V) (ds : List (List Str)), vs = [.ref p, .ref b, .ref c] ∧ H p = some (.ins (Cs .noted) dx []) ∧ H b = some (.lst (ns.map V.str)) ∧ ns.Nodup ∧ (∀ n ∈ ns, isLab n = true) ∧ ns.length ≤ 1000 ∧
  IsSeq K H c xs ∧ Paired (Sx H) xs ds ∧ ds.length ≤ 1000 ∧ ∀ H', But p H H' → EnAt Cs H' p ⟨.noted, ns, ds⟩ → Q .non H'
section
variable {P : Program} {w : World} {K : PySem.W.Frag} {mg : Str → Option Value} {base : Heap}
theorem scKnown : FnScope ["self", "deeds"] ["self", "deeds"] (defScope sKnown_init) := ⟨rfl, rfl, rfl, by decide +kernel, rfl, by decide +kernel, by decide +kernel⟩
theorem ok_known {f : Addr} {fd : FuncData} {Cs : Ew → Addr} (F : Fun K "__init__" "Known.__init__" sKnown_init f fd) (EX : EC K (Cs .known)) (Td : HasF P w K mg base "_told_deeds" 2 ["deeds"] (spToldDeeds K)) : FnOk P w K mg base CX0 3 f fd ["self", "deeds"] (spEnD K Cs .known) := by
  obtain ⟨f1, fd1, Td⟩ := Td
  refine F.ok scKnown (fun vs H Q E h => ?_) (fun cdv A' outer s H vs Q E hr h => ?_)
  · obtain ⟨a, b, c, d, e, rfl, _⟩ := h
    rfl
  · obtain ⟨p, dx, b, xs, ds, rfl, hp, hq, px, n, k⟩ := h
    refine ⟨_, (pss_cons (ps_fld (pv 0) (pe_call Td.G hr (by rfl) Td.m Td.kp Td.b .nil pass0 (pa_cons (pv 1) pa_nil)) rfl)
    (pss_one (ps_fld (pv 0) (pe_tup pa_nil) rfl))), ?_⟩
    refine ⟨_, rfl, b, xs, ds, rfl, hq, px, n, fun t H1 s1 dt => ?_⟩
    have hp1 := s1 _ _ hp
    refine ⟨_, rfl, p, _, dx, _, rfl, hp1, EX.cl, EX.nT, (by decide), ?_⟩
    refine ⟨Nat.zero_le _, fun u hu => ?_⟩
    have pu : p ≠ u := ne_of_none upd_same hu
    refine ⟨_, rfl, p, _, dx, _, rfl, by rw [upd_ne pu]; exact upd_same, EX.cl, EX.nN, (by rw [show (putF "told" (V.ref t) []).length = 1 from rfl]; decide), ?_⟩
    have b1 : But p H1 (upd (upd (upd H1 p (.ins (Cs .known) dx (putF "told" (.ref t) []))) u (.tup [])) p (.ins (Cs .known) dx (putF "names" (.ref u) (putF "told" (.ref t) [])))) := (((But.of (Same.refl _)).upd).new hu).upd
    exact k _ (fun c o e ne => b1 c o (s1 _ _ e) ne) ⟨dx, tnFs (.ref t) (.ref u), t, u, upd_same, tnFs_t _ _, tnFs_n _ _, fun m h1 h2 => tnFs_no _ _ h1 h2, dt.but hp1 b1, by rw [upd_ne pu.symm]; exact upd_same⟩
theorem scHolding : FnScope ["self", "deeds"] ["self", "deeds"] (defScope sHolding_init) := ⟨rfl, rfl, rfl, by decide +kernel, rfl, by decide +kernel, by decide +kernel⟩
theorem ok_holding {f : Addr} {fd : FuncData} {Cs : Ew → Addr} (F : Fun K "__init__" "Holding.__init__" sHolding_init f fd) (EX : EC K (Cs .holding)) (Td : HasF P w K mg base "_told_deeds" 2 ["deeds"] (spToldDeeds K)) : FnOk P w K mg base CX0 3 f fd ["self", "deeds"] (spEnD K Cs .holding) := by
  obtain ⟨f1, fd1, Td⟩ := Td
  refine F.ok scHolding (fun vs H Q E h => ?_) (fun cdv A' outer s H vs Q E hr h => ?_)
  · obtain ⟨a, b, c, d, e, rfl, _⟩ := h
    rfl
  · obtain ⟨p, dx, b, xs, ds, rfl, hp, hq, px, n, k⟩ := h
    refine ⟨_, (pss_cons (ps_fld (pv 0) (pe_call Td.G hr (by rfl) Td.m Td.kp Td.b .nil pass0 (pa_cons (pv 1) pa_nil)) rfl)
    (pss_one (ps_fld (pv 0) (pe_tup pa_nil) rfl))), ?_⟩
    refine ⟨_, rfl, b, xs, ds, rfl, hq, px, n, fun t H1 s1 dt => ?_⟩
    have hp1 := s1 _ _ hp
    refine ⟨_, rfl, p, _, dx, _, rfl, hp1, EX.cl, EX.nT, (by decide), ?_⟩
    refine ⟨Nat.zero_le _, fun u hu => ?_⟩
    have pu : p ≠ u := ne_of_none upd_same hu
    refine ⟨_, rfl, p, _, dx, _, rfl, by rw [upd_ne pu]; exact upd_same, EX.cl, EX.nN, (by rw [show (putF "told" (V.ref t) []).length = 1 from rfl]; decide), ?_⟩
    have b1 : But p H1 (upd (upd (upd H1 p (.ins (Cs .holding) dx (putF "told" (.ref t) []))) u (.tup [])) p (.ins (Cs .holding) dx (putF "names" (.ref u) (putF "told" (.ref t) [])))) := (((But.of (Same.refl _)).upd).new hu).upd
    exact k _ (fun c o e ne => b1 c o (s1 _ _ e) ne) ⟨dx, tnFs (.ref t) (.ref u), t, u, upd_same, tnFs_t _ _, tnFs_n _ _, fun m h1 h2 => tnFs_no _ _ h1 h2, dt.but hp1 b1, by rw [upd_ne pu.symm]; exact upd_same⟩
theorem scUnknown : FnScope ["self"] ["self"] (defScope sUnknown_init) := ⟨rfl, rfl, rfl, by decide +kernel, rfl, by decide +kernel, by decide +kernel⟩
theorem ok_unknown {f : Addr} {fd : FuncData} {Cs : Ew → Addr} (F : Fun K "__init__" "Unknown.__init__" sUnknown_init f fd) (EX : EC K (Cs .unknown)) : FnOk P w K mg base CX0 1 f fd ["self"] (spEnU Cs) := by
  refine F.ok scUnknown (fun vs H Q E h => ?_) (fun cdv A' outer s H vs Q E hr h => ?_)
  · obtain ⟨a, b, rfl, _⟩ := h
    rfl
  · obtain ⟨p, dx, rfl, hp, k⟩ := h
    refine ⟨_, (pss_cons (ps_fld (pv 0) (pe_tup pa_nil) rfl)
    (pss_one (ps_fld (pv 0) (pe_tup pa_nil) rfl))), ?_⟩
    refine ⟨Nat.zero_le _, fun v hv => ?_⟩
    have pv' : p ≠ v := ne_of_none hp hv
    refine ⟨_, rfl, p, _, dx, _, rfl, by rw [upd_ne pv']; exact hp, EX.cl, EX.nT, (by decide), ?_⟩
    refine ⟨Nat.zero_le _, fun u hu => ?_⟩
    have pu : p ≠ u := ne_of_none upd_same hu
    refine ⟨_, rfl, p, _, dx, _, rfl, by rw [upd_ne pu]; exact upd_same, EX.cl, EX.nN, (by rw [show (putF "told" (V.ref v) []).length = 1 from rfl]; decide), ?_⟩
    have b0 : But p H (upd H v (.tup [])) := (But.of (Same.refl _)).new hv
    have b1 : But p (upd H v (.tup [])) (upd (upd (upd (upd H v (.tup [])) p (.ins (Cs .unknown) dx (putF "told" (.ref v) []))) u (.tup [])) p (.ins (Cs .unknown) dx (putF "names" (.ref u) (putF "told" (.ref v) [])))) := (((But.of (Same.refl _)).upd).new hu).upd
    exact k _ (fun c o e ne => b1 c o (b0 c o e ne) ne) ⟨dx, tnFs (.ref v) (.ref u), v, u, upd_same, tnFs_t _ _, tnFs_n _ _, fun m h1 h2 => tnFs_no _ _ h1 h2, ⟨v, [], rfl, b1 v _ upd_same pv'.symm, .nil⟩, by rw [upd_ne pu.symm]; exact upd_same⟩
theorem scWithout : FnScope ["self", "names"] ["self", "names"] (defScope sWithout_init) := ⟨rfl, rfl, rfl, by decide +kernel, rfl, by decide +kernel, by decide +kernel⟩
theorem ok_without {f : Addr} {fd : FuncData} {Cs : Ew → Addr} (F : Fun K "__init__" "Without.__init__" sWithout_init f fd) (EX : EC K (Cs .without)) (Kn : HasF P w K mg base "_kind_names" 2 ["names"] spKindNames) : FnOk P w K mg base CX0 3 f fd ["self", "names"] (spEnN Cs) := by
  obtain ⟨f1, fd1, Kn⟩ := Kn
  refine F.ok scWithout (fun vs H Q E h => ?_) (fun cdv A' outer s H vs Q E hr h => ?_)
  · obtain ⟨a, b, c, d, rfl, _⟩ := h
    rfl
  · obtain ⟨p, dx, b, ns, rfl, hp, hb, nd, lab, n, k⟩ := h
    refine ⟨_, (pss_cons (ps_fld (pv 0) (pe_tup pa_nil) rfl)
    (pss_one (ps_fld (pv 0) (pe_call Kn.G hr (by rfl) Kn.m Kn.kp Kn.b .nil pass0 (pa_cons (pv 1) pa_nil)) rfl))), ?_⟩
    refine ⟨Nat.zero_le _, fun v hv => ?_⟩
    have pv' : p ≠ v := ne_of_none hp hv
    have pb : b ≠ p := fun z => by rw [z, hp] at hb; cases hb
    refine ⟨_, rfl, p, _, dx, _, rfl, by rw [upd_ne pv']; exact hp, EX.cl, EX.nT, (by decide), ?_⟩
    have b0 : But p H (upd (upd H v (.tup [])) p (.ins (Cs .without) dx (putF "told" (.ref v) []))) := ((But.of (Same.refl _)).new hv).upd
    refine ⟨_, rfl, b, ns, rfl, b0 b _ hb pb, nd, lab, n, fun t H1 s1 ht => ?_⟩
    have hp1 := s1 _ _ (upd_same (H := upd H v (.tup [])) (a := p) (o := .ins (Cs .without) dx (putF "told" (.ref v) [])))
    have hv1 : H1 v = some (.tup []) := s1 _ _ (by rw [upd_ne pv'.symm]; exact upd_same)
    refine ⟨_, rfl, p, _, dx, _, rfl, hp1, EX.cl, EX.nN, (by rw [show (putF "told" (V.ref v) []).length = 1 from rfl]; decide), ?_⟩
    have tp : t ≠ p := fun z => by rw [z, hp1] at ht; cases ht
    exact k _ ((b0.then s1).upd) ⟨dx, tnFs (.ref v) (.ref t), v, t, upd_same, tnFs_t _ _, tnFs_n _ _, fun m h1 h2 => tnFs_no _ _ h1 h2, ⟨v, [], rfl, by rw [upd_ne pv'.symm]; exact hv1, .nil⟩, by rw [upd_ne tp]; exact ht⟩
theorem scNoted : FnScope ["self", "names", "deeds"] ["self", "names", "deeds"] (defScope sNoted_init) := ⟨rfl, rfl, rfl, by decide +kernel, rfl, by decide +kernel, by decide +kernel⟩
theorem ok_noted {f : Addr} {fd : FuncData} {Cs : Ew → Addr} (F : Fun K "__init__" "Noted.__init__" sNoted_init f fd) (EX : EC K (Cs .noted)) (Kn : HasF P w K mg base "_kind_names" 2 ["names"] spKindNames) (Td : HasF P w K mg base "_told_deeds" 2 ["deeds"] (spToldDeeds K)) : FnOk P w K mg base CX0 3 f fd ["self", "names", "deeds"] (spEnB K Cs) := by
  obtain ⟨f1, fd1, Kn⟩ := Kn; obtain ⟨f2, fd2, Td⟩ := Td
  refine F.ok scNoted (fun vs H Q E h => ?_) (fun cdv A' outer s H vs Q E hr h => ?_)
  · obtain ⟨a, b, c, d, e, g, i, rfl, _⟩ := h
    rfl
  · obtain ⟨p, dx, b, c, ns, xs, ds, rfl, hp, hb, nd, lab, n, hq, px, nn, k⟩ := h
    refine ⟨_, (pss_cons (ps_fld (pv 0) (pe_call Kn.G hr (by rfl) Kn.m Kn.kp Kn.b .nil pass0 (pa_cons (pv 1) pa_nil)) rfl)
    (pss_one (ps_fld (pv 0) (pe_call Td.G hr (by rfl) Td.m Td.kp Td.b .nil pass0 (pa_cons (pv 2) pa_nil)) rfl))), ?_⟩
    refine ⟨_, rfl, b, ns, rfl, hb, nd, lab, n, fun t H1 s1 ht => ?_⟩
    have hp1 := s1 _ _ hp
    have tp : t ≠ p := fun z => by rw [z, hp1] at ht; cases ht
    refine ⟨_, rfl, p, _, dx, _, rfl, hp1, EX.cl, EX.nN, (by decide), ?_⟩
    have b1 : But p H1 (upd H1 p (.ins (Cs .noted) dx (putF "names" (.ref t) []))) := (But.of (Same.refl _)).upd
    have sw : Same (wo p H1) (upd H1 p (.ins (Cs .noted) dx (putF "names" (.ref t) []))) := fun c o e => b1 c o (wo_get e).1 (wo_get e).2
    refine ⟨_, rfl, c, xs, ds, rfl, ((hq.keep s1).off hp1).keep sw, pr_imp px fun x z q => ((q.keep s1).off hp1).keep sw, nn, fun v H2 s2 dv => ?_⟩
    have hp2 := s2 _ _ (upd_same (H := H1) (a := p) (o := .ins (Cs .noted) dx (putF "names" (.ref t) [])))
    refine ⟨_, rfl, p, _, dx, _, rfl, hp2, EX.cl, EX.nT, (by rw [show (putF "names" (V.ref t) []).length = 1 from rfl]; decide), ?_⟩
    have b2 : But p H1 (upd H2 p (.ins (Cs .noted) dx (putF "told" (.ref v) (putF "names" (.ref t) [])))) := (b1.then s2).upd
    exact k _ (fun c o e ne => b2 c o (s1 _ _ e) ne) ⟨dx, ntFs (.ref v) (.ref t), v, t, upd_same, ntFs_t _ _, ntFs_n _ _, fun m h1 h2 => ntFs_no _ _ h1 h2, dv.but hp2 ((But.of (Same.refl _)).upd), b2 t _ ht tp⟩
end
end Kx

set_option maxHeartbeats 4000000
namespace Kx
open PySem L2
/-! years as data; == of histories -/
def dD (d : List Str) : PyData := .tuple (d.map PyData.str)
def dDs (y : List (List Str)) : PyData := .tuple (y.map dD)
def dYs (ys : List (List (List Str))) : PyData := .tuple (ys.map dDs)
theorem eqvAll_map {α : Type} [DecidableEq α] {f : α → PyData} (hf : ∀ a b, PyData.eqv (f a) (f b) = decide (a = b)) : ∀ xs ys : List α, PyData.eqvAll (xs.map f) (ys.map f) = decide (xs = ys)
  | [], [] => rfl
  | [], _ :: _ => rfl
  | _ :: _, [] => rfl
  | x :: xs, y :: ys => by
    show (PyData.eqv (f x) (f y) && PyData.eqvAll (xs.map f) (ys.map f)) = _
    rw [hf, eqvAll_map hf xs ys]
    by_cases h1 : x = y
    · by_cases h2 : xs = ys
      · simp [h1, h2]
      · simp [h1, h2]
    · simp [h1]
theorem eqv_str (a b : Str) : PyData.eqv (.str a) (.str b) = decide (a = b) := by
  by_cases h : a = b
  · subst h
    simp [PyData.eqv]
  · simp [PyData.eqv, h]
theorem eqv_dD (a b : List Str) : PyData.eqv (dD a) (dD b) = decide (a = b) := by
  show PyData.eqvAll (a.map PyData.str) (b.map PyData.str) = _
  exact eqvAll_map eqv_str a b
theorem eqv_dDs (a b : List (List Str)) : PyData.eqv (dDs a) (dDs b) = decide (a = b) := by
  show PyData.eqvAll (a.map dD) (b.map dD) = _
  exact eqvAll_map eqv_dD a b
theorem eqv_dYs (a b : List (List (List Str))) : PyData.eqv (dYs a) (dYs b) = decide (a = b) := by
  show PyData.eqvAll (a.map dDs) (b.map dDs) = _
  exact eqvAll_map eqv_dDs a b
theorem lay_map {α : Type} {f : α → PyData} {n : Nat} : ∀ {xs : List α}, (∀ x ∈ xs, PyData.canLay0 (f x) = true ∧ PyData.depth (f x) ≤ n) → PyData.canLayAll0 (xs.map f) = true ∧ PyData.depthAll (xs.map f) ≤ n
  | [], _ => ⟨rfl, Nat.zero_le _⟩
  | x :: xs, h => by
    obtain ⟨h1, h2⟩ := h x (.head _)
    obtain ⟨h3, h4⟩ := lay_map (xs := xs) fun y m => h y (.tail _ m)
    refine ⟨?_, Nat.max_le.mpr ⟨h2, h4⟩⟩
    show (PyData.canLay0 (f x) && PyData.canLayAll0 (xs.map f)) = true
    rw [h1, h3]
    rfl
theorem lay_dD {d : List Str} (h : ∀ z ∈ d, PyData.strOk z = true) : PyData.canLay0 (dD d) = true ∧ PyData.depth (dD d) ≤ 1 := by
  obtain ⟨a, b⟩ := lay_map (f := PyData.str) (n := 0) (xs := d) fun z m => ⟨h z m, Nat.le_refl _⟩
  exact ⟨a, by show PyData.depthAll (d.map PyData.str) + 1 ≤ 1; omega⟩
theorem lay_dDs {y : List (List Str)} (h : ∀ d ∈ y, ∀ z ∈ d, PyData.strOk z = true) : PyData.canLay0 (dDs y) = true ∧ PyData.depth (dDs y) ≤ 2 := by
  obtain ⟨a, b⟩ := lay_map (f := dD) (n := 1) (xs := y) fun d m => lay_dD (h d m)
  exact ⟨a, by show PyData.depthAll (y.map dD) + 1 ≤ 2; omega⟩
def OkY (ys : List (List (List Str))) : Prop := ∀ y ∈ ys, ∀ d ∈ y, ∀ z ∈ d, PyData.strOk z = true
theorem shaped_dYs {ys : List (List (List Str))} (h : OkY ys) : SeqAt.shaped (dYs ys) = true := by
  obtain ⟨a, b⟩ := lay_map (f := dDs) (n := 2) (xs := ys) fun y m => lay_dDs (h y m)
  unfold SeqAt.shaped
  rw [Bool.and_eq_true]
  refine ⟨a, decide_eq_true ?_⟩
  show PyData.depthAll (ys.map dDs) + 1 ≤ 64
  omega
theorem dpAll_of {K : PySem.W.Frag} {H : Hp} {α : Type} {F : V → α → Prop} {f : α → PyData} (h : ∀ x a, F x a → Dp K H x (f a)) : ∀ {xs : List V} {as : List α}, Paired F xs as → DpAll K H xs (as.map f)
  | _, _, .nil => .nil
  | _, _, .cons a t => .cons (h _ _ a) (dpAll_of h t)
theorem dp_map {K : PySem.W.Frag} {H : Hp} : ∀ zs : List Str, DpAll K H (zs.map V.str) (zs.map PyData.str)
  | [] => .nil
  | z :: zs => .cons (.str z) (dp_map zs)
theorem Ys.dp {K : PySem.W.Frag} {H : Hp} {x : V} {ys : List (List (List Str))} (h : Ys .tup H x ys) : Dp K H x (dYs ys) := by
  obtain ⟨a, xs, rfl, h, p⟩ := h
  refine .tup (SqT.of h) (dpAll_of (fun x y q => ?_) p)
  obtain ⟨b, zs, rfl, g, p2⟩ := q
  refine .tup (SqT.of g) (dpAll_of (fun x d q => ?_) p2)
  obtain ⟨c, rfl, g⟩ := q
  exact .tup (SqT.of g) (dp_map d)
def OkK (ks : List (Str × Int)) : Prop := ∀ q ∈ ks, PyData.strOk q.1 = true
theorem shaped_dD {d : List Str} (h : ∀ z ∈ d, PyData.strOk z = true) : SeqAt.shaped (dD d) = true := by
  obtain ⟨a, b⟩ := lay_dD h
  unfold SeqAt.shaped
  rw [Bool.and_eq_true]
  exact ⟨a, decide_eq_true (by omega)⟩
end Kx

set_option maxHeartbeats 8000000
namespace Kx
open PySem L2
/-! what is free; what an entry lets -/
/-- what an entry that stands is -/
structure EnOk (e : En) : Prop where
  nn : e.w ≠ .without → e.w ≠ .noted → e.names = []
  nd : e.told.length ≤ 1000
  ok : ∀ d ∈ e.told, ∀ z ∈ d, PyData.strOk z = true
  fit : ∀ d ∈ e.told, d ≠ []
def spFree (Cs : Ew → Addr) (CK : Addr) (k : Ew) : Sp := fun vs H Q _ => ∃ (p kp : Addr) (ks : List (Str × Int)) (e : En), vs = [.ref p, .ref kp] ∧ e.w = k ∧ EnAt Cs H p e ∧ (e.w ≠ .without → e.w ≠ .noted → e.names = []) ∧ KindsAt CK H kp (vv ks) ∧ ks.length ≤ 1000 ∧
  ∀ t H', Same H H' → H' t = some (.tup ((freeE (ks.map (·.1)) e).map V.str)) → Q (.ref t) H'
theorem pe_ex {X : Cx} {α : Type} {e : Expr} {t : α → TE} (h : ∀ k, PE X e (t k)) : PE X e (fun σ H Q => ∃ k, t k σ H Q) := ⟨fun pins s σ H Q I ⟨k, q⟩ => (h k).run pins s σ H Q I q⟩
theorem or_ex {X : Cx} {α : Type} {f : Value → Value → Sem Value} {r : α → R2} (h : ∀ k, OpR X f (r k)) : OpR X f (fun x y H Q => ∃ k, r k x y H Q) := fun pins s σ H x y v u Q I rx ry ⟨k, q⟩ => h k pins s σ H x y v u Q I rx ry q
theorem letsP_step {F : List Str} {told ds : List Deed} {d : Deed} {i q : Nat} (h : ds[i]? = some d) : letsP F told q (ds.drop i) = if told[q]? = some d then letsP F told (q + 1) (ds.drop (i + 1)) else if hdOf d ∈ F then letsP F told q (ds.drop (i + 1)) else false := by
  obtain ⟨lt, e⟩ := List.getElem?_eq_some_iff.mp h
  rw [List.drop_eq_getElem_cons lt, e]
  rfl
theorem Ss.dpD {K : PySem.W.Frag} {H : Hp} {x : V} {d : List Str} (h : Ss .tup H x d) : Dp K H x (dD d) := by
  obtain ⟨a, rfl, h⟩ := h
  exact .tup (SqT.of h) (dp_map d)
theorem Sx.dp {K : PySem.W.Frag} {H : Hp} {a : Addr} {d : List Str} (h : H a = some (.tup (d.map V.str))) : Dp K H (.ref a) (dD d) := .tup (SqT.of h) (dp_map d)
/-- each class of entries has its free -/
def FrM (P : Program) (w : World) (K : PySem.W.Frag) (mg : Str → Option Value) (base : Heap) (Cs : Ew → Addr) (CK : Addr) : Prop := ∀ k : Ew, ∃ g fd, Meth K (Cs k) "free" g ∧ FnOk P w K mg base CX0 2 g fd ["self", "kinds"] (spFree Cs CK k) ∧ Binds K fd ["self", "kinds"] []
abbrev tFree (Cs : Ew → Addr) (CK : Addr) (ta : TE) (t : TA) : TE := fun σ H Q => ∃ k : Ew, tMeth (Cs k) "free" (spFree Cs CK k) [] E0 ta t σ H Q
theorem others_free {kn : List Str} {e : En} (h : e.w ≠ .known) : othersOf kn e.names = freeE kn e := by
  unfold othersOf freeE
  rw [if_neg h]
theorem free_all {kn : List Str} {e : En} (h : e.w ≠ .known) (n : e.names = []) : freeE kn e = kn := by
  unfold freeE
  rw [if_neg h, n]
  exact List.filter_eq_self.mpr fun a _ => by simp
section
variable {P : Program} {w : World} {K : PySem.W.Frag} {mg : Str → Option Value} {base : Heap}
theorem scKFree : FnScope ["self", "kinds"] ["self", "kinds"] (defScope sKnown_free) := ⟨rfl, rfl, rfl, by decide +kernel, rfl, by decide +kernel, by decide +kernel⟩
theorem ok_kfree {f CK : Addr} {fd : FuncData} {Cs : Ew → Addr} (F : Fun K "free" "Known.free" sKnown_free f fd) : FnOk P w K mg base CX0 2 f fd ["self", "kinds"] (spFree Cs CK .known) := by
  refine F.ok scKFree (fun vs H Q E h => ?_) (fun cdv A' outer s H vs Q E hr h => ?_)
  · obtain ⟨a, b, c, d, rfl, _⟩ := h
    rfl
  · obtain ⟨p, kp, ks, e, rfl, ew, he, nn, hk, n, k⟩ := h
    refine ⟨_, pss_one (ps_ret (pe_tup pa_nil)), ?_⟩
    refine ⟨Nat.zero_le _, fun t ht => k t _ (sameUpd (Same.refl _) ht) ?_⟩
    unfold freeE
    rw [if_pos ew]
    exact upd_same
theorem scUFree : FnScope ["self", "kinds"] ["self", "kinds"] (defScope sUnknown_free) := ⟨rfl, rfl, rfl, by decide +kernel, rfl, by decide +kernel, by decide +kernel⟩
theorem ok_ufree {f CK : Addr} {fd : FuncData} {Cs : Ew → Addr} (KX : KC K CK) (F : Fun K "free" "Unknown.free" sUnknown_free f fd) : FnOk P w K mg base CX0 2 f fd ["self", "kinds"] (spFree Cs CK .unknown) := by
  refine F.ok scUFree (fun vs H Q E h => ?_) (fun cdv A' outer s H vs Q E hr h => ?_)
  · obtain ⟨a, b, c, d, rfl, _⟩ := h
    rfl
  · obtain ⟨p, kp, ks, e, rfl, ew, he, nn, hk, n, k⟩ := h
    obtain ⟨kdx, kfs, _, nr, _, _, i1, _, i3, _, _, _, _, _, i9, _⟩ := hk.get (K := K)
    refine ⟨_, pss_one (ps_ret (pe_fld (pv 1) rfl)), ?_⟩
    refine ⟨_, rfl, kp, CK, kdx, kfs, _, rfl, i1, KX.cl, KX.nN, i3, k nr _ (Same.refl _) ?_⟩
    rw [free_all (by rw [ew]; exact fun z => nomatch z) (nn (by rw [ew]; exact fun z => nomatch z) (by rw [ew]; exact fun z => nomatch z)), List.map_map]
    exact i9
theorem scHFree : FnScope ["self", "kinds"] ["self", "kinds"] (defScope sHolding_free) := ⟨rfl, rfl, rfl, by decide +kernel, rfl, by decide +kernel, by decide +kernel⟩
theorem ok_hfree {f CK : Addr} {fd : FuncData} {Cs : Ew → Addr} (KX : KC K CK) (F : Fun K "free" "Holding.free" sHolding_free f fd) : FnOk P w K mg base CX0 2 f fd ["self", "kinds"] (spFree Cs CK .holding) := by
  refine F.ok scHFree (fun vs H Q E h => ?_) (fun cdv A' outer s H vs Q E hr h => ?_)
  · obtain ⟨a, b, c, d, rfl, _⟩ := h
    rfl
  · obtain ⟨p, kp, ks, e, rfl, ew, he, nn, hk, n, k⟩ := h
    obtain ⟨kdx, kfs, _, nr, _, _, i1, _, i3, _, _, _, _, _, i9, _⟩ := hk.get (K := K)
    refine ⟨_, pss_one (ps_ret (pe_fld (pv 1) rfl)), ?_⟩
    refine ⟨_, rfl, kp, CK, kdx, kfs, _, rfl, i1, KX.cl, KX.nN, i3, k nr _ (Same.refl _) ?_⟩
    rw [free_all (by rw [ew]; exact fun z => nomatch z) (nn (by rw [ew]; exact fun z => nomatch z) (by rw [ew]; exact fun z => nomatch z)), List.map_map]
    exact i9
theorem scWFree : FnScope ["self", "kinds"] ["self", "kinds"] (defScope sWithout_free) := ⟨rfl, rfl, rfl, by decide +kernel, rfl, by decide +kernel, by decide +kernel⟩
theorem ok_wfree {f CK : Addr} {fd : FuncData} {Cs : Ew → Addr} (F : Fun K "free" "Without.free" sWithout_free f fd) (EX : EC K (Cs .without)) (Ot : HasF P w K mg base "_others" 1 ["kinds", "names"] (spOthers CK)) : FnOk P w K mg base CX0 2 f fd ["self", "kinds"] (spFree Cs CK .without) := by
  obtain ⟨f1, fd1, Ot⟩ := Ot
  refine F.ok scWFree (fun vs H Q E h => ?_) (fun cdv A' outer s H vs Q E hr h => ?_)
  · obtain ⟨a, b, c, d, rfl, _⟩ := h
    rfl
  · obtain ⟨p, kp, ks, e, rfl, ew, he, nn, hk, n, k⟩ := h
    obtain ⟨dx, fs, t, nm, h1, h2, h3, h4, h5, h6⟩ := he.ex
    rw [ew] at h1
    refine ⟨_, pss_one (ps_ret (pe_call Ot.G hr (by rfl) Ot.m Ot.kp Ot.b .nil pass0 (pa_cons (pv 1) (pa_cons (pe_fld (pv 0) rfl) pa_nil)))), ?_⟩
    refine ⟨_, rfl, _, rfl, p, Cs .without, dx, fs, _, rfl, h1, EX.cl, EX.nN, h3, kp, nm, ks, e.names, rfl, hk, h6, n, fun t H' s ht => k t H' s ?_⟩
    rw [others_free (by rw [ew]; exact fun z => nomatch z)] at ht
    exact ht
theorem scNFree : FnScope ["self", "kinds"] ["self", "kinds"] (defScope sNoted_free) := ⟨rfl, rfl, rfl, by decide +kernel, rfl, by decide +kernel, by decide +kernel⟩
theorem ok_nfree {f CK : Addr} {fd : FuncData} {Cs : Ew → Addr} (F : Fun K "free" "Noted.free" sNoted_free f fd) (EX : EC K (Cs .noted)) (Ot : HasF P w K mg base "_others" 1 ["kinds", "names"] (spOthers CK)) : FnOk P w K mg base CX0 2 f fd ["self", "kinds"] (spFree Cs CK .noted) := by
  obtain ⟨f1, fd1, Ot⟩ := Ot
  refine F.ok scNFree (fun vs H Q E h => ?_) (fun cdv A' outer s H vs Q E hr h => ?_)
  · obtain ⟨a, b, c, d, rfl, _⟩ := h
    rfl
  · obtain ⟨p, kp, ks, e, rfl, ew, he, nn, hk, n, k⟩ := h
    obtain ⟨dx, fs, t, nm, h1, h2, h3, h4, h5, h6⟩ := he.ex
    rw [ew] at h1
    refine ⟨_, pss_one (ps_ret (pe_call Ot.G hr (by rfl) Ot.m Ot.kp Ot.b .nil pass0 (pa_cons (pv 1) (pa_cons (pe_fld (pv 0) rfl) pa_nil)))), ?_⟩
    refine ⟨_, rfl, _, rfl, p, Cs .noted, dx, fs, _, rfl, h1, EX.cl, EX.nN, h3, kp, nm, ks, e.names, rfl, hk, h6, n, fun t H' s ht => k t H' s ?_⟩
    rw [others_free (by rw [ew]; exact fun z => nomatch z)] at ht
    exact ht
/-- the class of an entry's lets is Entry: found from each -/
def spLets (K : PySem.W.Frag) (Cs : Ew → Addr) (CK : Addr) : Sp := fun vs H Q _ => ∃ (p kp y : Addr) (ks : List (Str × Int)) (e : En) (xs : List V) (ds : List Deed), vs = [.ref p, .ref kp, .ref y] ∧ EnAt Cs H p e ∧ EnOk e ∧ KindsAt CK H kp (vv ks) ∧ ks.length ≤ 1000 ∧
  IsSeq K H y xs ∧ Paired (Sx H) xs ds ∧ ds.length ≤ 1000 ∧ (∀ d ∈ ds, d ≠ [] ∧ ∀ z ∈ d, PyData.strOk z = true) ∧ ∀ H', Same H H' → Q (.bl (letsP (freeE (ks.map (·.1)) e) e.told 0 ds)) H'
abbrev nLets : List Str := ["self", "kinds", "year", "free", "place", "deed"]
theorem scLets : FnScope nLets ["self", "kinds", "year"] (defScope sEntry_lets) := ⟨rfl, rfl, rfl, by decide +kernel, rfl, by decide +kernel, by decide +kernel⟩
theorem ok_lets {f CK : Addr} {fd : FuncData} {Cs : Ew → Addr} (F : Fun K "lets" "Entry.lets" sEntry_lets f fd) (T : Bl mg) (B : Bm mg) (EX : ∀ k, EC K (Cs k)) (FR : FrM P w K mg base Cs CK) : FnOk P w K mg base CX0 3 f fd ["self", "kinds", "year"] (spLets K Cs CK) := by
  refine F.ok scLets (fun vs H Q E h => ?_) (fun cdv A' outer s H vs Q E hr h => ?_)
  · obtain ⟨a, b, c, d, e, g, i, rfl, _⟩ := h
    rfl
  · obtain ⟨p, kp, y, ks, e, xs, ds, rfl, he, ok, hk, n, hy, px, nn, good, k⟩ := h
    obtain ⟨dx, fs, t, nm, h1, h2, h3, h4, h5, h6⟩ := he.ex
    have hr2 : Room 2 _ := hr.mono (by decide)
    refine ⟨_, (C8.pss_cut (ps_set (i := 3) scLets.nd rfl (Or.inl rfl) (pe_ex (t := fun k : Ew => tMeth (Cs k) "free" (spFree Cs CK k) [] E0 (tVar 0) (tCons (tVar 1) tNil)) (fun k => by
        obtain ⟨g, fd, M, G, b⟩ := FR k
        exact pe_meth (pv 0) (EX k).cl M G hr2 b .nil pass0 (pa_cons (pv 1) pa_nil))))
    (pss_cons (ps_set (i := 4) scLets.nd rfl (Or.inl rfl) pe_int)
    (C8.pss_cut (ps_for PassesOwn.never rfl (pi_seq (pv 2)) (pg_name (i := 5) scLets.nd rfl (Or.inl rfl))
        (pss_one (ps_if (PW.pt (pw_and (pt_cmpR op_lt (pv 4) (pe_callB call_len_seq (by rfl) T.len PySem.boot_len (pa_cons (pe_fld (pv 0) rfl) pa_nil)) (nomark _)) (pw_and1 (pt_cmpR (op_eqD hr.units) (pe_callTy (call_tupK (K := K) rfl) (by rfl) B.tuple (by decide +kernel) (pa_cons (pv 5) pa_nil)) (pe_ix ix_tup (pe_fld (pv 0) rfl) (pv 4) (fun _ _ => rfl)) (nomark _)))))
          (pss_one (ps_aug (i := 4) scLets.nd rfl (.inl rfl) pe_int ip_add))
          (pss_one (ps_if (pt_cmpR op_notIn_seq (pe_ix ix_seq (pv 5) pe_int (fun _ _ => rfl)) (pv 3) (by rfl)) (pss_one (ps_ret pe_bl)) pss_nil)))))
    (pss_one (ps_ret (pe_cmpR op_eq (pv 4) (pe_callB call_len_seq (by rfl) T.len PySem.boot_len (pa_cons (pe_fld (pv 0) rfl) pa_nil)) (nomark _))))))), ?_⟩
    refine ⟨fun σ H1 => ∃ fr, σ = [some (.ref p), some (.ref kp), some (.ref y), some (.ref fr), none, none] ∧ Same H H1 ∧ H1 fr = some (.tup ((freeE (ks.map (·.1)) e).map V.str)), ?_, ?_⟩
    · exact ⟨e.w, _, rfl, p, dx, fs, rfl, h1, h4 _ (by decide +kernel) (by decide +kernel), _, rfl, p, kp, ks, e, rfl, rfl, he, ok.nn, hk, n, fun fr H1 s1 hf => ⟨fr, rfl, s1, hf⟩⟩
    rintro σ H1 ⟨fr, rfl, s1, hf⟩
    generalize freeE (ks.map (·.1)) e = Fr at *
    obtain ⟨tb, txs, te, ht, pt⟩ := h5
    cases te
    have lt' := Paired.length pt
    refine ⟨fun σ H2 => ∃ (v : Option V) (q : Nat), σ = [some (.ref p), some (.ref kp), some (.ref y), some (.ref fr), some (.int (q : Nat)), v] ∧ Same H1 H2 ∧ letsP Fr e.told 0 ds = decide (q = e.told.length), ?_, ?_⟩
    · refine ⟨_, rfl, y, rfl, for_sq (K := K) (a := y) (xs := xs) (hy.keep s1) (fun i σ H2 => ∃ (v : Option V) (q : Nat), σ = [some (.ref p), some (.ref kp), some (.ref y), some (.ref fr), some (.int (q : Nat)), v] ∧ Same H1 H2 ∧ q ≤ e.told.length ∧ letsP Fr e.told 0 ds = letsP Fr e.told q (ds.drop i)) ⟨none, 0, rfl, Same.refl _, Nat.zero_le _, rfl⟩ (fun i σ H2 ⟨_, _, _, s, _⟩ => s) ?_ ?_⟩
      · rintro i x σ H2 hi ⟨v, q, rfl, s2, lq, eq⟩
        obtain ⟨d, hd, dx'⟩ := pr_get px hi
        have s12 := s1.trans s2
        have dx2 := dx'.keep s12
        rw [letsP_step hd] at eq
        have p2 := s12 _ _ h1
        have t2 := s12 _ _ ht
        refine ⟨_, rfl, _, rfl, p, _, dx, fs, _, rfl, p2, (EX _).cl, (EX _).nT, h2, t, txs, rfl, .inr (SqT.of t2), _, _, rfl, rfl, _, rfl, ?_⟩
        refine ite2 (fun c1 => ?_) (fun c1 => ?_)
        · have c1 : q < e.told.length := by have := of_decide_eq_true c1; omega
          obtain ⟨v0, hv0⟩ : ∃ v0, txs[q]? = some v0 := ⟨_, List.getElem?_eq_getElem (by omega)⟩
          obtain ⟨d0, hd0, sv0⟩ := pr_get pt hv0
          rw [hd0] at eq
          rcases dx2 with ⟨a, rfl, ha⟩ | ⟨a, rfl, ha⟩
          · refine ⟨_, rfl, a, _, rfl, .inl ⟨SqL.of ha, fun l hl => ?_⟩⟩
            have s3 := sameUpd (o := .tup (d.map V.str)) (Same.refl H2) hl
            refine ⟨_, rfl, p, _, dx, fs, _, rfl, s3 _ _ p2, (EX _).cl, (EX _).nT, h2, _, rfl, t, txs, q, v0, rfl, rfl, SqT.of (s3 _ _ t2), atI_nat hv0, dD d, dD d0, Sx.dp (upd_same), (sv0.keep (s12.trans s3)).dpD, shaped_dD (good d (List.mem_of_getElem? hd)).2, shaped_dD (ok.ok d0 (List.mem_of_getElem? hd0)), ?_⟩
            rw [eqv_dD]
            refine ⟨_, rfl, ?_⟩
            by_cases ed : d = d0
            · rw [if_pos (by rw [ed])] at eq
              rw [decide_eq_true ed]
              exact iteT ⟨_, rfl, _, _, rfl, rfl, _, q + 1, rfl, s2.trans s3, by omega, eq⟩
            · rw [if_neg fun z => ed (Option.some.inj z).symm] at eq
              rw [decide_eq_false ed]
              refine iteF ?_
              obtain ⟨z, zs, rfl⟩ : ∃ z zs, d = z :: zs := by
                cases d with
                | nil => exact absurd rfl (good [] (List.mem_of_getElem? hd)).1
                | cons z zs => exact ⟨z, zs, rfl⟩
              refine ⟨_, rfl, .inl ⟨a, _, 0, .str z, rfl, rfl, SqL.of (s3 _ _ ha), atI0 _ _, ?_⟩⟩
              refine ⟨_, rfl, fr, _, rfl, .inr (SqT.of ((s3) _ _ (s2 _ _ hf))), rfl, flat_strs _, _, rfl, ?_⟩
              rw [if_pos rfl, inV_strs]
              by_cases hm : z ∈ Fr
              · rw [if_pos (show hdOf (z :: zs) ∈ Fr from hm)] at eq
                rw [decide_eq_true hm]
                exact iteF ⟨_, q, rfl, s2.trans (s3), lq, eq⟩
              · rw [if_neg (show ¬ hdOf (z :: zs) ∈ Fr from hm)] at eq
                rw [decide_eq_false hm]
                refine iteT ?_
                rw [eq] at k
                exact k _ (s12.trans (s3))
          · refine ⟨_, rfl, a, _, rfl, .inr ⟨SqT.of ha, ?_⟩⟩
            have s3 := Same.refl H2
            refine ⟨_, rfl, p, _, dx, fs, _, rfl, s3 _ _ p2, (EX _).cl, (EX _).nT, h2, _, rfl, t, txs, q, v0, rfl, rfl, SqT.of (s3 _ _ t2), atI_nat hv0, dD d, dD d0, Sx.dp ha, (sv0.keep (s12.trans s3)).dpD, shaped_dD (good d (List.mem_of_getElem? hd)).2, shaped_dD (ok.ok d0 (List.mem_of_getElem? hd0)), ?_⟩
            rw [eqv_dD]
            refine ⟨_, rfl, ?_⟩
            by_cases ed : d = d0
            · rw [if_pos (by rw [ed])] at eq
              rw [decide_eq_true ed]
              exact iteT ⟨_, rfl, _, _, rfl, rfl, _, q + 1, rfl, s2.trans s3, by omega, eq⟩
            · rw [if_neg fun z => ed (Option.some.inj z).symm] at eq
              rw [decide_eq_false ed]
              refine iteF ?_
              obtain ⟨z, zs, rfl⟩ : ∃ z zs, d = z :: zs := by
                cases d with
                | nil => exact absurd rfl (good [] (List.mem_of_getElem? hd)).1
                | cons z zs => exact ⟨z, zs, rfl⟩
              refine ⟨_, rfl, .inr (.inl ⟨a, _, 0, .str z, rfl, rfl, SqT.of (ha), atI0 _ _, ?_⟩)⟩
              refine ⟨_, rfl, fr, _, rfl, .inr (SqT.of ((s3) _ _ (s2 _ _ hf))), rfl, flat_strs _, _, rfl, ?_⟩
              rw [if_pos rfl, inV_strs]
              by_cases hm : z ∈ Fr
              · rw [if_pos (show hdOf (z :: zs) ∈ Fr from hm)] at eq
                rw [decide_eq_true hm]
                exact iteF ⟨_, q, rfl, s2.trans (s3), lq, eq⟩
              · rw [if_neg (show ¬ hdOf (z :: zs) ∈ Fr from hm)] at eq
                rw [decide_eq_false hm]
                refine iteT ?_
                rw [eq] at k
                exact k _ (s12.trans (s3))
        · have c1 : ¬ q < e.told.length := fun z => c1 (decide_eq_true (by omega))
          rw [if_neg fun z => by rw [List.getElem?_eq_none (by omega)] at z; cases z] at eq
          refine iteF ?_
          rcases dx2 with ⟨a, rfl, ha⟩ | ⟨a, rfl, ha⟩
          · obtain ⟨z, zs, rfl⟩ : ∃ z zs, d = z :: zs := by
              cases d with
              | nil => exact absurd rfl (good [] (List.mem_of_getElem? hd)).1
              | cons z zs => exact ⟨z, zs, rfl⟩
            refine ⟨_, rfl, .inl ⟨a, _, 0, .str z, rfl, rfl, SqL.of (ha), atI0 _ _, ?_⟩⟩
            refine ⟨_, rfl, fr, _, rfl, .inr (SqT.of ((Same.refl _) _ _ (s2 _ _ hf))), rfl, flat_strs _, _, rfl, ?_⟩
            rw [if_pos rfl, inV_strs]
            by_cases hm : z ∈ Fr
            · rw [if_pos (show hdOf (z :: zs) ∈ Fr from hm)] at eq
              rw [decide_eq_true hm]
              exact iteF ⟨_, q, rfl, s2.trans (Same.refl _), lq, eq⟩
            · rw [if_neg (show ¬ hdOf (z :: zs) ∈ Fr from hm)] at eq
              rw [decide_eq_false hm]
              refine iteT ?_
              rw [eq] at k
              exact k _ (s12.trans (Same.refl _))
          · obtain ⟨z, zs, rfl⟩ : ∃ z zs, d = z :: zs := by
              cases d with
              | nil => exact absurd rfl (good [] (List.mem_of_getElem? hd)).1
              | cons z zs => exact ⟨z, zs, rfl⟩
            refine ⟨_, rfl, .inr (.inl ⟨a, _, 0, .str z, rfl, rfl, SqT.of (ha), atI0 _ _, ?_⟩)⟩
            refine ⟨_, rfl, fr, _, rfl, .inr (SqT.of ((Same.refl _) _ _ (s2 _ _ hf))), rfl, flat_strs _, _, rfl, ?_⟩
            rw [if_pos rfl, inV_strs]
            by_cases hm : z ∈ Fr
            · rw [if_pos (show hdOf (z :: zs) ∈ Fr from hm)] at eq
              rw [decide_eq_true hm]
              exact iteF ⟨_, q, rfl, s2.trans (Same.refl _), lq, eq⟩
            · rw [if_neg (show ¬ hdOf (z :: zs) ∈ Fr from hm)] at eq
              rw [decide_eq_false hm]
              refine iteT ?_
              rw [eq] at k
              exact k _ (s12.trans (Same.refl _))
      · rintro σ H2 ⟨v, q, rfl, s2, lq, eq⟩
        rw [Paired.length px, List.drop_length] at eq
        exact ⟨v, q, rfl, s2, eq⟩
    rintro σ H2 ⟨v, q, rfl, s2, eq⟩
    have s12 := s1.trans s2
    refine ⟨_, rfl, _, rfl, p, _, dx, fs, _, rfl, s12 _ _ h1, (EX _).cl, (EX _).nT, h2, t, txs, rfl, .inr (SqT.of (s12 _ _ ht)), ?_⟩
    rw [eq] at k
    have ee : decide (V.int (q : Nat) = V.int (txs.length : Nat)) = decide (q = e.told.length) := decide_eq_decide.mpr ⟨fun z => by injection z with z; omega, fun z => by rw [z, lt']⟩
    have k := k _ s12
    rw [← ee] at k
    exact ⟨rfl, k⟩
end
end Kx

set_option maxHeartbeats 8000000
namespace Kx
open PySem L2
/-! entry_within -/
/-- each class of entries has Entry's lets -/
structure LtM (P : Program) (w : World) (K : PySem.W.Frag) (mg : Str → Option Value) (base : Heap) (Cs : Ew → Addr) (CK g : Addr) (fd : FuncData) : Prop where
  M : ∀ k, Meth K (Cs k) "lets" g
  G : FnOk P w K mg base CX0 3 g fd ["self", "kinds", "year"] (spLets K Cs CK)
  b : Binds K fd ["self", "kinds", "year"] []
def spEWithin (Cs : Ew → Addr) (CK : Addr) : Sp := fun vs H Q _ => ∃ (kp p o : Addr) (ks : List (Str × Int)) (e e' : En), vs = [.ref kp, .ref p, .ref o] ∧ EnAt Cs H p e ∧ EnOk e ∧ EnAt Cs H o e' ∧ EnOk e' ∧ KindsAt CK H kp (vv ks) ∧ ks.length ≤ 1000 ∧
  ∀ H', Same H H' → Q (.bl (withinP (freeE (ks.map (·.1)) e) e.told (freeE (ks.map (·.1)) e') e'.told)) H'
abbrev nEWithin : List Str := ["kinds", "one", "other", "free", "name"]
section
variable {P : Program} {w : World} {K : PySem.W.Frag} {mg : Str → Option Value} {base : Heap}
theorem scEWithin : FnScope nEWithin ["kinds", "one", "other"] (defScope sEntryWithin) := ⟨rfl, rfl, rfl, by decide +kernel, rfl, by decide +kernel, by decide +kernel⟩
theorem ok_ewithin {f CK gL : Addr} {fd fdL : FuncData} {Cs : Ew → Addr} (F : Fun K "entry_within" "entry_within" sEntryWithin f fd) (m : mg "entry_within" = some (.ref f)) (B : Bm mg) (A : Am mg) (EX : ∀ k, EC K (Cs k)) (FR : FrM P w K mg base Cs CK) (LT : LtM P w K mg base Cs CK gL fdL) : HasF P w K mg base "entry_within" 4 ["kinds", "one", "other"] (spEWithin Cs CK) := by
  refine ⟨f, fd, ?_, m, F.kp, F.binds fun _ _ _ _ _ _ us hl => match us, hl with | [_, _, _], _ => rfl⟩
  refine F.ok scEWithin (fun vs H Q E h => ?_) (fun cdv A' outer s H vs Q E hr h => ?_)
  · obtain ⟨a, b, c, d, e, g, rfl, _⟩ := h
    rfl
  · obtain ⟨kp, p, o, ks, e, e', rfl, he, ok, ho, ok', hk, n, k⟩ := h
    have hr2 : Room 2 _ := hr.mono (by decide)
    have hr3 : Room 3 _ := hr.mono (by decide)
    refine ⟨_, (C8.pss_cut (ps_set (i := 3) scEWithin.nd rfl (Or.inr rfl) (pe_ex (t := fun k : Ew => tMeth (Cs k) "free" (spFree Cs CK k) [] E0 (tVar 2) (tCons (tVar 0) tNil)) (fun k => by
        obtain ⟨g, fd, M, G, b⟩ := FR k
        exact pe_meth (pv 2) (EX k).cl M G hr2 b .nil pass0 (pa_cons (pv 0) pa_nil))))
    (pss_one (ps_ret (pe_and (pe_callB (cr_all rfl) (by rfl) A.all (by decide +kernel) (pa_cons (pe_lc (own := [("name", 4)]) (g := gName 4) (tt := tYes) (te := tOp (rIn K false) (tVar 4) (tVar 3)) (by rfl) scEWithin.nd (pi_seq (pe_ex (t := fun k : Ew => tMeth (Cs k) "free" (spFree Cs CK k) [] E0 (tVar 1) (tCons (tVar 0) tNil)) (fun k => by
        obtain ⟨g, fd, M, G, b⟩ := FR k
        exact pe_meth (pv 1) (EX k).cl M G hr2 b .nil pass0 (pa_cons (pv 0) pa_nil)))) (blkOk_by (own := [("name", 4)]) (N := nEWithin) (sc := defScope sEntryWithin) (by decide +kernel)) (fun _ _ _ _ _ => pg_name (i := 4) scEWithin.nd rfl (Or.inl rfl)) (fun _ _ _ _ _ => pts_nil) (fun _ _ _ _ _ => (pe_cmpR (X := _) op_in_seq (pv 4) (pv 3) (by rfl)))) pa_nil))
        (pe_one (pe_ex (t := fun k : Ew => tMeth (Cs k) "lets" (spLets K Cs CK) [] E0 (tVar 2) (tCons (tVar 0) (tCons (tFld K (tVar 1) "told") tNil))) (fun k => by
          exact pe_meth (pv 2) (EX k).cl (LT.M k) LT.G hr3 LT.b .nil pass0 (pa_cons (pv 0) (pa_cons (pe_fld (pv 1) rfl) pa_nil))))))))), ?_⟩
    obtain ⟨dx, fs, t, nm, h1, h2, h3, h4, h5, h6⟩ := he.ex
    obtain ⟨dx', fs', t', nm', g1, g2, g3, g4, g5, g6⟩ := ho.ex
    have lf : ∀ e : En, (freeE (ks.map (·.1)) e).length ≤ 1000 := fun e => by
      unfold freeE
      split
      · exact Nat.zero_le _
      · exact Nat.le_trans (List.length_filter_le _ _) (by rw [List.length_map]; exact n)
    refine ⟨fun σ H1 => ∃ fr, σ = [some (.ref kp), some (.ref p), some (.ref o), some (.ref fr), none] ∧ Same H H1 ∧ H1 fr = some (.tup ((freeE (ks.map (·.1)) e').map V.str)), ?_, ?_⟩
    · exact ⟨e'.w, _, rfl, o, dx', fs', rfl, g1, g4 _ (by decide +kernel) (by decide +kernel), _, rfl, o, kp, ks, e', rfl, rfl, ho, ok'.nn, hk, n, fun fr H1 s1 hf => ⟨fr, rfl, s1, hf⟩⟩
    rintro σ H1 ⟨fr, rfl, s1, hf⟩
    have l1 := lf e
    refine ⟨e.w, _, rfl, p, dx, fs, rfl, s1 _ _ h1, h4 _ (by decide +kernel) (by decide +kernel), _, rfl, p, kp, ks, e, rfl, rfl, he.keep s1, ok.nn, hk.keep s1, n, fun f1 H2 s2 hf1 => ?_⟩
    generalize e1 : freeE (ks.map (·.1)) e = F1 at *
    generalize e2 : freeE (ks.map (·.1)) e' = F2 at *
    refine ⟨f1, rfl, lc_pure (g := gName 4) (fun j v H' => ∀ z, F1[j]? = some z → v = .bl (decide (z ∈ F2))) (fun j v H' H'' q s z hz => q z hz) (IsSeq.tup hf1) (Same.refl _) (by rw [List.length_map]; omega) ?_ ?_ fun x σ H Q Q' q z => q _ _ z⟩
    · rintro D i x H3 k' hi hD s3 ⟨acc, hacc⟩ kk
      rw [List.getElem?_map] at hi
      obtain ⟨z, hz, rfl⟩ := Option.map_eq_some_iff.mp hi
      refine ⟨rfl, ?_⟩
      refine ⟨_, rfl, _, rfl, fr, _, rfl, .inr (SqT.of (s3 _ _ (s2 _ _ hf))), rfl, flat_strs _, ?_⟩
      rw [if_neg Bool.false_ne_true, inV_strs]
      exact kk _ _ (Same.refl _) fun z' hz' => by rw [hz] at hz'; cases hz'; rfl
    · intro D zs H3 hD s3 hd3 lz g3
      have ez : zs = (F1.map fun z => decide (z ∈ F2)).map V.bl := by
        rw [List.map_map]
        refine List.ext_getElem? fun j => ?_
        rw [List.getElem?_map]
        cases e : zs[j]? with
        | none =>
          rw [List.getElem?_eq_none_iff] at e
          rw [List.getElem?_eq_none (by rw [lz, List.length_map] at e; exact e)]
          rfl
        | some v =>
          have lt := (List.getElem?_eq_some_iff.mp e).1
          rw [lz, List.length_map] at lt
          rw [List.getElem?_eq_getElem lt]
          exact congrArg some (g3 j v e _ (List.getElem?_eq_getElem lt))
      refine ⟨D, _, rfl, by rw [← ez]; exact SqL.of hd3, ?_⟩
      have s13 := (s1.trans s2).trans s3
      obtain ⟨tb, txs, te, ht, pt⟩ := h5
      cases te
      have ea : ((F1.map fun z => decide (z ∈ F2)).all id) = F1.all fun n => decide (n ∈ F2) := by rw [List.all_map]; rfl
      refine ⟨_, rfl, ?_⟩
      rw [ea]
      have kk := k
      unfold withinP at kk
      cases c : F1.all fun n => decide (n ∈ F2) with
      | false =>
        rw [c] at kk
        exact iteF (kk _ s13)
      | true =>
        rw [c] at kk
        refine iteT ⟨e'.w, _, rfl, o, dx', fs', rfl, s13 _ _ g1, g4 _ (by decide +kernel) (by decide +kernel), _, rfl, _, rfl, p, _, dx, fs, _, rfl, s13 _ _ h1, (EX _).cl, (EX _).nT, h2, ?_⟩
        refine ⟨o, kp, t, ks, e', txs, e.told, rfl, ho.keep s13, ok', hk.keep s13, n, .tup (s13 _ _ ht), pr_imp pt fun _ _ q => .inr (q.keep s13), ok.nd, fun d hd => ⟨ok.fit d hd, ok.ok d hd⟩, fun H4 s4 => ?_⟩
        rw [e2]
        exact kk H4 (s13.trans s4)
end
end Kx

set_option maxHeartbeats 8000000
namespace Kx
open PySem L2
/-! what an abstract asks of its entries -/
/-- an entry of such kinds and persons -/
structure EnFit (ks : List (Str × Int)) (ps : List Str) (e : En) : Prop where
  nn : e.w ≠ .without → e.w ≠ .noted → e.names = []
  nd : e.told.length ≤ 100
  nm : ∀ n ∈ e.names, n ∈ ks.map (·.1)
  md : ∀ d ∈ e.told, Made ks ps d
  nt : e.w = .noted → ∀ d ∈ e.told, hdOf d ∈ e.names
theorem Made.ne {ks : List (Str × Int)} {ys zs : List Str} (m : Made ks ys zs) : zs ≠ [] := by
  obtain ⟨r, hr, ps, rfl, e, hp⟩ := m
  exact fun z => nomatch z
theorem lb_ok {z : Str} (h : Lb z) : PyData.strOk z = true := (lab_ok h).1
theorem EnFit.ok {ks : List (Str × Int)} {ps : List Str} {e : En} (f : EnFit ks ps e) (g : GoodK ks) (l : ∀ y ∈ ps, Lb y) : EnOk e :=
  ⟨f.nn, by have := f.nd; omega, fun d hd z hz => lb_ok (((f.md d hd).all g l).2.2 z hz), fun d hd => (f.md d hd).ne⟩
abbrev EnV (Cs : Ew → Addr) (H : Hp) (x : V) (e : En) : Prop := ∃ p, x = V.ref p ∧ EnAt Cs H p e
theorem EnV.keep {Cs : Ew → Addr} {H H' : Hp} {x : V} {e : En} (h : EnV Cs H x e) (s : Same H H') : EnV Cs H' x e := by
  obtain ⟨p, e1, h⟩ := h
  exact ⟨p, e1, h.keep s⟩
theorem add1_mem {acc : List Str} {z y : Str} (h : y ∈ add1 acc z) : y ∈ acc ∨ y = z := by
  unfold add1 at h
  split at h
  · exact .inl h
  · rcases List.mem_append.mp h with h | h
    · exact .inl h
    · exact .inr (List.mem_singleton.mp h)
theorem addAll_mem : ∀ {zs acc : List Str} {y : Str}, y ∈ addAll acc zs → y ∈ acc ∨ y ∈ zs
  | [], _, _, h => .inl h
  | z :: zs, acc, y, h => by
    rcases addAll_mem (zs := zs) (acc := add1 acc z) h with h | h
    · rcases add1_mem h with h | rfl
      · exact .inl h
      · exact .inr (.head _)
    · exact .inr (.tail _ h)
theorem add1_nd {acc : List Str} {z : Str} (h : acc.Nodup) : (add1 acc z).Nodup := by
  unfold add1
  split
  · exact h
  · rename_i n
    rw [List.nodup_append]
    refine ⟨h, by simp, fun a ha b hb e => ?_⟩
    rw [List.mem_singleton.mp hb] at e
    exact n (e ▸ ha)
theorem nd_len : ∀ {xs ys : List Str}, xs.Nodup → (∀ x ∈ xs, x ∈ ys) → xs.length ≤ ys.length
  | [], _, _, _ => Nat.zero_le _
  | x :: xs, ys, nd, sub => by
    have mx := sub x (.head _)
    have nd' := List.nodup_cons.mp nd
    have := nd_len (xs := xs) (ys := ys.erase x) nd'.2 fun y hy => by
      have ne : y ≠ x := fun e => nd'.1 (e ▸ hy)
      exact (List.mem_erase_of_ne ne).mpr (sub y (.tail _ hy))
    rw [List.length_erase_of_mem mx] at this
    have : 0 < ys.length := List.length_pos_of_mem mx
    rw [List.length_cons]
    omega
def spNamedIn (Cs : Ew → Addr) : Sp := fun vs H Q _ => ∃ (b p : Addr) (e : En), vs = [.ref b] ∧ H b = some (.lst [.ref p]) ∧ EnAt Cs H p e ∧ (∀ d ∈ e.told, d ≠ []) ∧ (yearP e.told).length ≤ 2000000 ∧ ∀ q H', Same H H' → H' q = some (.tup ((addAll [] (yearP e.told)).map V.str)) → Q (.ref q) H'
abbrev nNamedIn : List Str := ["entries", "found", "entry", "deed", "person"]
section
variable {P : Program} {w : World} {K : PySem.W.Frag} {mg : Str → Option Value} {base : Heap}
theorem scNamedIn : FnScope nNamedIn ["entries"] (defScope sNamedIn) := ⟨rfl, rfl, rfl, by decide +kernel, rfl, by decide +kernel, by decide +kernel⟩
theorem ok_namedin {f : Addr} {fd : FuncData} {Cs : Ew → Addr} (F : Fun K "_named_in" "_named_in" sNamedIn f fd) (m : mg "_named_in" = some (.ref f)) (B : Bm mg) (EX : ∀ k, EC K (Cs k)) : HasF P w K mg base "_named_in" 1 ["entries"] (spNamedIn Cs) := by
  refine ⟨f, fd, ?_, m, F.kp, F.binds fun _ _ _ _ _ _ us hl => match us, hl with | [_], _ => rfl⟩
  refine F.ok scNamedIn (fun vs H Q E h => ?_) (fun cdv A outer s H vs Q E hr h => ?_)
  · obtain ⟨b, p, e, rfl, _⟩ := h
    rfl
  · obtain ⟨eb, p, e, rfl, hb0, he, ne, lz, k⟩ := h
    have hu := hu_of hr
    obtain ⟨dx, fs, t, nm, h1, h2, h3, h4, h5, h6⟩ := he.ex
    obtain ⟨tb, zs, te, hb, pz⟩ := h5
    cases te
    refine ⟨_, (pss_cons (ps_set (i := 1) scNamedIn.nd rfl (Or.inl rfl) pe_dnewK)
    (pss_cons (ps_for PassesOwn.never rfl (pi_seq (pv 0)) (pg_name (i := 2) scNamedIn.nd rfl (.inl rfl))
        (pss_one (ps_for PassesOwn.never rfl (pi_tup (pe_fld (pv 2) rfl)) (pg_name (i := 3) scNamedIn.nd rfl (.inl rfl))
          (pss_one (ps_for PassesOwn.never rfl (pi_tup (pe_slice sl_tup (pv 3) (po_some pe_int) po_none)) (pg_name (i := 4) scNamedIn.nd rfl (.inl rfl))
            (pss_one (ps_dput hu (pv 1) (pv 4) pe_bl rfl)))))))
    (pss_one (ps_ret (pe_callTy (call_tuple_dK rfl) (by rfl) B.tuple (by decide +kernel) (pa_cons (pv 1) pa_nil)))))), ?_⟩
    intro f hf
    have s0 : Same H (upd H f (.dK [])) := sameUpd (Same.refl _) hf
    refine ⟨_, rfl, eb, rfl, for_sq (K := K) (a := eb) (xs := [.ref p]) (IsSeq.lst hb0) (fun i σ H2 => ∃ v2 v3 v4 : Option V, σ = [some (.ref eb), some (.ref f), v2, v3, v4] ∧ Same H H2 ∧ H2 f = some (.dK (pD (addAll [] (if i = 0 then [] else yearP e.told))))) ⟨none, none, none, rfl, s0, upd_same⟩ (fun i σ H2 ⟨_, _, _, _, s, _⟩ => s) ?_ ?_⟩
    · rintro i x σ H2 hi ⟨v2, v3, v4, rfl, s2, hd2⟩
      obtain ⟨rfl, rfl⟩ : i = 0 ∧ x = .ref p := by
        cases i with
        | zero => cases hi; exact ⟨rfl, rfl⟩
        | succ i => cases hi
      rw [if_pos rfl] at hd2
      refine ⟨_, rfl, p, _, dx, fs, _, rfl, s2 _ _ h1, (EX _).cl, (EX _).nT, h2, ?_⟩
      refine ⟨t, rfl, ⟨_, SqT.of (s2 _ _ hb)⟩, for_tup (K := K) (a := t) (xs := zs) (fun j σ H3 => ∃ v3 v4 : Option V, σ = [some (.ref eb), some (.ref f), some (.ref p), v3, v4] ∧ Same H H3 ∧ H3 f = some (.dK (pD (addAll [] ((e.told.take j).flatMap deedP)))))
        ⟨v3, v4, rfl, s2, by simpa using hd2⟩ (fun j σ H3 _ ⟨_, _, _, s, _⟩ => SqT.of (s _ _ hb)) ?_ ?_⟩
      · rintro j x σ H3 hj ⟨v3, v4, rfl, s3, hd3⟩
        obtain ⟨d, hd, c, rfl, hc⟩ := pr_get pz hj
        obtain ⟨z0, zr, rfl⟩ : ∃ z0 zr, d = z0 :: zr := by
          cases d with
          | nil => exact absurd rfl (ne [] (List.mem_of_getElem? hd))
          | cons z0 zr => exact ⟨z0, zr, rfl⟩
        refine ⟨_, rfl, _, rfl, c, _, rfl, SqT.of (s3 _ _ hc), whole _ _, fun q hq => ?_⟩
        have s4 : Same H (upd H3 q (.tup (cutV ((z0 :: zr).map V.str) (some 1) none))) := sameUpd s3 hq
        have qf : q ≠ f := (ne_of_none hd3 hq).symm
        have ecut : cutV ((z0 :: zr).map V.str) (some 1) none = zr.map V.str := by rw [List.map_cons, cut1]
        refine ⟨q, rfl, ⟨_, SqT.of upd_same⟩, for_tup (K := K) (a := q) (xs := cutV ((z0 :: zr).map V.str) (some 1) none) (fun m σ H4 => ∃ v4 : Option V, σ = [some (.ref eb), some (.ref f), some (.ref p), some (.ref c), v4] ∧ Same H H4 ∧ H4 q = some (.tup (cutV ((z0 :: zr).map V.str) (some 1) none)) ∧ H4 f = some (.dK (pD (addAll [] ((e.told.take j).flatMap deedP ++ zr.take m)))))
          ⟨v4, rfl, s4, upd_same, by rw [upd_ne qf.symm]; simpa using hd3⟩ (fun m σ H4 _ ⟨_, _, _, h, _⟩ => SqT.of h) ?_ ?_⟩
        · rintro m x σ H4 hm ⟨v4, rfl, s5, hq5, hd5⟩
          rw [ecut, List.getElem?_map] at hm
          obtain ⟨z, hz, rfl⟩ := Option.map_eq_some_iff.mp hm
          have bound : (pD (addAll [] ((e.told.take j).flatMap deedP ++ zr.take m))).length < sizeLine := by
            unfold pD
            rw [List.length_map]
            refine line2 ?_
            have b1 := addAll_len ((e.told.take j).flatMap deedP ++ zr.take m) []
            have b3 : ((e.told.take j).flatMap deedP ++ deedP (z0 :: zr)).length ≤ (yearP e.told).length := fm_pre (f := deedP) hd
            have b4 : (deedP (z0 :: zr)).length = zr.length := rfl
            simp only [List.length_append, List.length_take, List.length_nil] at b1 b3 ⊢
            omega
          refine ⟨_, rfl, _, rfl, f, _, rfl, DPut.k (k := Sum.inr z) hd5 bound, some (.str z), rfl, fun c' o e => ?_, ?_, ?_⟩
          · rw [upd_ne (ne_of_none e hf)]
            exact s5 c' o e
          · rw [upd_ne qf]
            exact hq5
          · rw [upd_same, pD_put, take_succ_of hz, ← List.append_assoc, addAll_one]
        · rintro σ H4 ⟨v4, rfl, s5, _, hd5⟩
          refine ⟨_, _, rfl, s5, ?_⟩
          rw [ecut, List.length_map, List.take_length] at hd5
          rw [hd5, fm_take hd]
          rfl
      · rintro σ H3 ⟨v3, v4, rfl, s3, hd3⟩
        refine ⟨_, _, _, rfl, s3, ?_⟩
        rw [hd3, Paired.length pz, List.take_length, if_neg (Nat.succ_ne_zero 0)]
        rfl
    · rintro σ H2 ⟨v2, v3, v4, rfl, s2, hd2⟩
      rw [if_neg (show ¬ [V.ref p].length = 0 from Nat.succ_ne_zero 0)] at hd2
      refine ⟨_, rfl, f, _, rfl, hd2, fun q hq => k q _ (sameUpd s2 hq) ?_⟩
      rw [upd_same, pD_keys]
def spCheckP (K : PySem.W.Frag) (Cs : Ew → Addr) : Sp := fun vs H Q _ => ∃ (b : Addr) (xs : List V) (es : List En) (ks : List (Str × Int)) (ps : List Str), vs = [.ref b] ∧ IsSeq K H b xs ∧ Paired (EnV Cs H) xs es ∧ (∀ e ∈ es, EnFit ks ps e) ∧ GoodK ks ∧ ps.length ≤ 8 ∧ ∀ H', Same H H' → Q .non H'
abbrev nCheckP : List Str := ["entries", "found", "index", "entry", "person"]
theorem scCheckP : FnScope nCheckP ["entries"] (defScope sCheckPersons) := ⟨rfl, rfl, rfl, by decide +kernel, rfl, by decide +kernel, by decide +kernel⟩
theorem ok_checkp {f : Addr} {fd : FuncData} {Cs : Ew → Addr} (F : Fun K "_check_persons" "_check_persons" sCheckPersons f fd) (m : mg "_check_persons" = some (.ref f)) (T : Bl mg) (mN : ∃ t, mg "MOST_NAMED" = some (.int 8 t)) (Nm : HasF P w K mg base "_named_in" 1 ["entries"] (spNamedIn Cs)) : HasF P w K mg base "_check_persons" 2 ["entries"] (spCheckP K Cs) := by
  refine ⟨f, fd, ?_, m, F.kp, F.binds fun _ _ _ _ _ _ us hl => match us, hl with | [_], _ => rfl⟩
  obtain ⟨f1, fd1, Nm⟩ := Nm; obtain ⟨tN, mN⟩ := mN
  refine F.ok scCheckP (fun vs H Q E h => ?_) (fun cdv A outer s H vs Q E hr h => ?_)
  · obtain ⟨b, c, d, e, g, rfl, _⟩ := h
    rfl
  · obtain ⟨eb, xs, es, ks, ps, rfl, hq, px, fit, g, lp, k⟩ := h
    have hr1 : Room 1 _ := hr.mono (by decide)
    have hu := hu_of hr1
    refine ⟨_, (pss_cons (ps_set (i := 1) scCheckP.nd rfl (Or.inl rfl) pe_dnewK)
    (pss_one (ps_for PassesOwn.never rfl (pi_enumB (by rfl) T.enumerate (pa_cons (pv 0) pa_nil)) (pg_tup rfl (pgs_cons (pg_name (i := 2) scCheckP.nd rfl (Or.inl rfl)) (pgs_cons (pg_name (i := 3) scCheckP.nd rfl (Or.inl rfl)) pgs_nil)))
        (C8.pss_cut (ps_for PassesOwn.never rfl (pi_seq (pe_call Nm.G hr1 (by rfl) Nm.m Nm.kp Nm.b .nil pass0 (pa_cons (pe_lst (pa_cons (pv 3) pa_nil)) pa_nil))) (pg_name (i := 4) scCheckP.nd rfl (.inl rfl))
            (pss_one (ps_dput hu (pv 1) (pv 4) pe_bl rfl)))
    (pss_one (ps_if (pt_cmpR op_gt (pe_callB call_lenD (by rfl) T.len PySem.boot_len (pa_cons (pv 1) pa_nil)) (pe_glob (v := .int 8) rfl mN ⟨_, rfl⟩) (nomark _)) pss_never pss_nil)))))), ?_⟩
    intro f hf
    have s0 : Same H (upd H f (.dK [])) := sameUpd (Same.refl _) hf
    have allps : ∀ e ∈ es, ∀ z ∈ yearP e.told, z ∈ ps := fun e he z hz => by
      obtain ⟨d, hd, hz⟩ := List.mem_flatMap.mp hz
      obtain ⟨r, _, qs, rfl, _, hp⟩ := (fit e he).md d hd
      exact hp z hz
    have few : ∀ e ∈ es, (yearP e.told).length ≤ 2000000 := fun e he => by
      have f := fit e he
      have h1 : ∀ l : List Deed, (∀ d ∈ l, Made ks ps d) → (yearP l).length ≤ 2 * l.length := fun l => by
        induction l with
        | nil => intro _; exact Nat.zero_le _
        | cons d l ih =>
          intro h
          have := ih fun x hx => h x (.tail _ hx)
          obtain ⟨r, hr, qs, rfl, e2, _⟩ := h d (.head _)
          have := (g.each r hr).2.2.2
          have e3 : yearP ((r.1 :: qs) :: l) = qs ++ yearP l := rfl
          rw [e3, List.length_append, List.length_cons]
          omega
      have := h1 e.told f.md
      have := f.nd
      omega
    refine ⟨_, rfl, eb, xs, rfl, for_enumB (K := K) (a := eb) (xs := xs) (fun i σ H2 => ∃ (v2 v3 v4 : Option V) (ls : List Str), σ = [some (.ref eb), some (.ref f), v2, v3, v4] ∧ Same H H2 ∧ H2 f = some (.dK (pD ls)) ∧ ls.Nodup ∧ ∀ z ∈ ls, z ∈ ps) ⟨none, none, none, [], rfl, s0, upd_same, .nil, fun z hz => nomatch hz⟩ ?_ ?_ ?_⟩
    · rcases hq.both with hq | hq
      · exact .inl fun i σ H2 ⟨_, _, _, _, _, s, _⟩ => hq _ s
      · exact .inr fun i σ H2 ⟨_, _, _, _, _, s, _⟩ => hq _ s
    · rintro i x σ H2 t hi ⟨v2, v3, v4, ls, rfl, s2, hd2, nd, sub⟩ ht
      obtain ⟨e, he, p, rfl, hp⟩ := pr_get px hi
      have me := List.mem_of_getElem? he
      have tf : t ≠ f := (ne_of_none hd2 ht).symm
      refine ⟨t, _, rfl, SqT.of upd_same, rfl, _, _, rfl, _, _, rfl, rfl, ?_⟩
      have s3 : Same H (upd H2 t (.tup [.int (i : Nat), .ref p])) := sameUpd s2 ht
      refine ⟨fun σ H' => ∃ (v4 : Option V) (ls : List Str), σ = [some (.ref eb), some (.ref f), some (.int (i : Nat)), some (.ref p), v4] ∧ Same H H' ∧ H' f = some (.dK (pD ls)) ∧ ls.Nodup ∧ ∀ z ∈ ls, z ∈ ps, ?_, ?_⟩
      · refine ⟨_, rfl, (by show 1 ≤ sizeLine; decide), fun l hl => ?_⟩
        have s4 := sameUpd (o := .lst [V.ref p]) s3 hl
        have lf : l ≠ f := fun z => by rw [z, upd_ne tf.symm, hd2] at hl; cases hl
        refine ⟨l, p, e, rfl, upd_same, hp.keep s4, fun d hd => ((fit e me).md d hd).ne, few e me, fun q H4 s5 hq4 => ?_⟩
        have hd4 : H4 f = some (.dK (pD ls)) := s5 _ _ (by rw [upd_ne lf.symm, upd_ne tf.symm]; exact hd2)
        have sH : Same H H4 := s4.trans s5
        have qf : q ≠ f := fun z => by rw [z, hd4] at hq4; cases hq4
        refine ⟨q, rfl, for_sq (K := K) (a := q) (xs := (addAll [] (yearP e.told)).map V.str) (IsSeq.tup (wo_at hq4 qf)) (fun j σ H5 => ∃ (v4 : Option V) (ls : List Str), σ = [some (.ref eb), some (.ref f), some (.int (i : Nat)), some (.ref p), v4] ∧ Same (wo f H4) H5 ∧ H5 f = some (.dK (pD ls)) ∧ ls.Nodup ∧ ∀ z ∈ ls, z ∈ ps) ⟨v4, ls, rfl, wo_same, hd4, nd, sub⟩ (fun j σ H5 ⟨_, _, _, s, _⟩ => s) ?_ ?_⟩
        · rintro j x σ H5 hj ⟨v4, ls, rfl, s6, hd6, nd6, sub6⟩
          rw [List.getElem?_map] at hj
          obtain ⟨z, hz, rfl⟩ := Option.map_eq_some_iff.mp hj
          have zp : z ∈ ps := by
            rcases addAll_mem (List.mem_of_getElem? hz) with h | h
            · cases h
            · exact allps e me z h
          have bound : (pD ls).length < sizeLine := by
            unfold pD
            rw [List.length_map]
            have := nd_len nd6 sub6
            exact line2 (by omega)
          refine ⟨_, rfl, _, rfl, f, _, rfl, DPut.k (k := Sum.inr z) hd6 bound, some (.str z), add1 ls z, rfl, fun c' o e' => ?_, ?_, add1_nd nd6, fun y hy => ?_⟩
          · rw [upd_ne (wo_get e').2]
            exact s6 c' o e'
          · rw [upd_same, pD_put]
          · rcases add1_mem hy with h | rfl
            · exact sub6 y h
            · exact zp
        · rintro σ H5 ⟨v4, ls, rfl, s6, hd6, nd6, sub6⟩
          exact ⟨v4, ls, rfl, fun c o e' => s6 c o (wo_at (sH c o e') fun z => by rw [z, hf] at e'; cases e'), hd6, nd6, sub6⟩
      · rintro σ H5 ⟨v4, ls, rfl, s6, hd6, nd6, sub6⟩
        refine ⟨_, rfl, f, _, rfl, hd6, _, _, rfl, rfl, _, rfl, ?_⟩
        have : (pD ls).length ≤ 8 := by
          unfold pD
          rw [List.length_map]
          have := nd_len nd6 sub6
          omega
        rw [decide_eq_false (by omega)]
        exact iteF ⟨_, _, _, ls, rfl, s6, hd6, nd6, sub6⟩
    · rintro σ H2 ⟨v2, v3, v4, ls, rfl, s2, hd2, nd, sub⟩
      exact k _ s2
end
end Kx

set_option maxHeartbeats 8000000
namespace Kx
open PySem L2
/-! _entry_fault: of an entry that fits -/
structure ET (K : PySem.W.Frag) (mg : Str → Option Value) (Cs : Ew → Addr) (CE : Addr) : Prop where
  ca : ∀ k, PySem.W.findIn K (.ref (Cs k)) "__class__" = some (some (.builtin "object.__class__"))
  cg : PySem.W.specialIn K (.builtin "object.__class__") "__get__" = some (some (.builtin "getset_descriptor.__get__"))
  ct : PySem.W.takesIn K (.builtin "object.__class__") = some true
  cm : ∀ k, PySem.W.mroIn K (Cs k) (.type "object") = some true
  kE : ∀ k, PySem.W.kitOne K (.ref (Cs k)) (.ref CE) = some true
  kN : ∀ k : Ew, PySem.W.kitOne K (.ref (Cs k)) (.ref (Cs .noted)) = some (decide (k = .noted))
  mE : mg "Entry" = some (.ref CE)
  mN : mg "Noted" = some (.ref (Cs .noted))
theorem DeedIs.of {H : Hp} {a : Addr} {d : List Str} (h : H a = some (.tup (d.map V.str))) (l : d.length ≤ 100) (f : ∀ z ∈ d, Lb z) : DeedIs H (.ref a) (some (d.map V.str)) := .tup h (fun x m => by
  obtain ⟨z, hz, rfl⟩ := List.mem_map.mp m
  exact ⟨"str", .str z, fun y e => by cases e; exact ⟨(lab_ok (f z hz)).1, Nat.le_trans (lab_ok (f z hz)).2 (by decide)⟩⟩) (by rw [List.length_map]; exact l)
theorem GoodK.kb {ks : List (Str × Int)} (g : GoodK ks) : ∀ q ∈ ks, 0 ≤ q.2 ∧ q.2 ≤ 2 := fun q hq => (g.each q hq).2.2
def spEFault (K : PySem.W.Frag) (Cs : Ew → Addr) (CK : Addr) : Sp := fun vs H Q _ => ∃ (kp p : Addr) (ks : List (Str × Int)) (ps : List Str) (e : En), vs = [.ref kp, .ref p] ∧ KindsAt CK H kp (vv ks) ∧ EnAt Cs H p e ∧ EnFit ks ps e ∧ GoodK ks ∧ (∀ y ∈ ps, Lb y) ∧ e.names.length ≤ 1000 ∧ ∀ H', Same H H' → Q .non H'
abbrev nEFault : List Str := ["kinds", "entry", "deed", "word", "name"]
section
variable {P : Program} {w : World} {K : PySem.W.Frag} {mg : Str → Option Value} {base : Heap}
theorem scEFault : FnScope nEFault ["kinds", "entry"] (defScope sEntryFault) := ⟨rfl, rfl, rfl, by decide +kernel, rfl, by decide +kernel, by decide +kernel⟩
theorem ok_efault {f CK CE gI gF : Addr} {fd fdI fdF : FuncData} {Cs : Ew → Addr} (F : Fun K "_entry_fault" "_entry_fault" sEntryFault f fd) (m : mg "_entry_fault" = some (.ref f)) (B : Bm mg) (A : Am mg) (KX : KC K CK) (EX : ∀ k, EC K (Cs k)) (T : ET K mg Cs CE) (OI : OwnM P w K mg base CK "__contains__" 1 ["self", "thing"] (spKIn CK) gI fdI)
    (OF : OwnM P w K mg base CK "fault" 2 ["self", "deed"] (spFault CK) gF fdF) : HasF P w K mg base "_entry_fault" 3 ["kinds", "entry"] (spEFault K Cs CK) := by
  refine ⟨f, fd, ?_, m, F.kp, F.binds fun _ _ _ _ _ _ us hl => match us, hl with | [_, _], _ => rfl⟩
  refine F.ok scEFault (fun vs H Q E h => ?_) (fun cdv A' outer s H vs Q E hr h => ?_)
  · obtain ⟨b, c, d, e, g, rfl, _⟩ := h
    rfl
  · obtain ⟨kp, p, ks, ps, e, rfl, hk, he, fit, g, lb, ln, k⟩ := h
    have hr1 : Room 1 _ := hr.mono (by decide)
    have hr2 : Room 2 _ := hr.mono (by decide)
    refine ⟨_, (pss_cons (ps_if (pt_not (pt_val (pe_callB call_isi (by rfl) B.isinstance (by decide +kernel) (pa_cons (pv 1) (pa_cons (pe_glob (v := .ref CE) rfl T.mE rfl) pa_nil))))) pss_never pss_nil)
    (C8.pss_cut (ps_if (pt_not (pt_val (pe_callB (cr_all rfl) (by rfl) A.all (by decide +kernel) (pa_cons (pe_lc (own := [("name", 4)]) (g := gName 4) (tt := tYes) (te := tOp (rInOwn false CK (spKIn CK) E0) (tVar 4) (tVar 0)) (by rfl) scEFault.nd (pi_seq (pe_fld (pv 1) rfl)) (blkOk_by (own := [("name", 4)]) (N := nEFault) (sc := defScope sEntryFault) (by decide +kernel)) (fun _ _ _ _ _ => pg_name (i := 4) scEFault.nd rfl (Or.inl rfl)) (fun _ _ _ _ _ => pts_nil) (fun _ _ _ _ _ => (pe_cmpR (X := _) (op_inOwn OI.M.at_ OI.M.fn OI.raw hr1 pass0) (pv 4) (pv 0) (by rfl)))) pa_nil)))) pss_never pss_nil)
    (pss_cons (ps_for PassesOwn.never rfl (pi_tup (pe_fld (pv 1) rfl)) (pg_name (i := 2) scEFault.nd rfl (.inl rfl))
        (pss_cons (ps_set (i := 3) scEFault.nd rfl (Or.inl rfl) (pe_meth (pv 0) KX.cl OF.M OF.G hr2 OF.b .nil pass0 (pa_cons (pv 2) pa_nil)))
    (pss_cons (ps_if (pt_cmpR op_notN (pv 3) pe_non (nomark _)) pss_never pss_nil)
    (pss_one (ps_if (PW.pt (pw_and (pt_val (pe_callB call_isi (by rfl) B.isinstance (by decide +kernel) (pa_cons (pv 1) (pa_cons (pe_glob (v := .ref (Cs .noted)) rfl T.mN rfl) pa_nil)))) (pw_and1 (pt_cmpR op_notIn_seq (pe_ix ix_tup (pv 2) pe_int (fun _ _ => rfl)) (pe_fld (pv 1) rfl) (by rfl))))) pss_never pss_nil)))))
    (pss_one (ps_ret pe_non))))), ?_⟩
    obtain ⟨dx, fs, t, nm, h1, h2, h3, h4, h5, h6⟩ := he.ex
    obtain ⟨tb, zs, te, hb, pz⟩ := h5
    cases te
    have ty : ∀ {H' : Hp}, Same H H' → TyX K H' (.ref p) (.ref (Cs e.w)) := fun s => .base (.ins (s _ _ h1) (EX _).cl (T.ca _) T.cg T.ct (T.cm _))
    refine ⟨_, rfl, _, _, _, _, _, rfl, .own CE, ty (Same.refl _), T.kE _, _, rfl, iteF ?_⟩
    refine ⟨fun σ H1 => σ = [some (.ref kp), some (.ref p), none, none, none] ∧ Same H H1, ?_, ?_⟩
    · refine ⟨_, rfl, p, _, dx, fs, _, rfl, h1, (EX _).cl, (EX _).nN, h3, nm, rfl, lc_pure (g := gName 4) (fun j v H' => v = .bl true) (fun j v H' H'' q s => q) (IsSeq.tup h6) (Same.refl _) (by rw [List.length_map]; omega) ?_ ?_ fun x σ H Q Q' q z => q _ _ z⟩
      · rintro D i x H3 k' hi hD s3 ⟨acc, hacc⟩ kk
        rw [List.getElem?_map] at hi
        obtain ⟨z, hz, rfl⟩ := Option.map_eq_some_iff.mp hi
        refine ⟨rfl, ?_⟩
        obtain ⟨kdx, kfs, _, _, _, _, i1, _⟩ := (hk.keep s3).get (K := K)
        refine ⟨_, rfl, _, rfl, kp, kdx, kfs, rfl, i1, kp, .str z, "str", ks, rfl, hk.keep s3, .str z, _, rfl, ?_⟩
        rw [if_neg Bool.false_ne_true, show kIn ks (.str z) = true from decide_eq_true (fit.nm z (List.mem_of_getElem? hz))]
        exact kk _ _ (Same.refl _) rfl
      · intro D zs3 H3 hD s3 hd3 lz g3
        rw [List.length_map] at lz
        have ez : zs3 = (List.replicate e.names.length true).map V.bl := by
          rw [List.map_replicate]
          exact List.eq_replicate_iff.mpr ⟨lz, fun v hv => by
            obtain ⟨j, hj⟩ := List.mem_iff_getElem?.mp hv
            exact g3 j v hj⟩
        refine ⟨D, List.replicate e.names.length true, rfl, by rw [← ez]; exact SqL.of hd3, _, rfl, ?_⟩
        rw [show (List.replicate e.names.length true).all id = true by simp]
        exact iteF ⟨rfl, s3⟩
    rintro σ H1 ⟨rfl, s1⟩
    refine ⟨_, rfl, p, _, dx, fs, _, rfl, s1 _ _ h1, (EX _).cl, (EX _).nT, h2, t, rfl, ⟨_, SqT.of (s1 _ _ hb)⟩, for_tup (K := K) (a := t) (xs := zs) (fun j σ H3 => ∃ v2 v3 : Option V, σ = [some (.ref kp), some (.ref p), v2, v3, none] ∧ Same H H3) ⟨none, none, rfl, s1⟩ (fun j σ H3 _ ⟨_, _, _, s⟩ => SqT.of (s _ _ hb)) ?_ ?_⟩
    · rintro j x σ H3 hj ⟨v2, v3, rfl, s3⟩
      obtain ⟨d, hd, c, rfl, hc⟩ := pr_get pz hj
      have md := List.mem_of_getElem? hd
      obtain ⟨m1, m2, m3⟩ := (fit.md d md).all g lb
      obtain ⟨pdx, pfs, _, _, _, _, g1, _, _, _, g5, _⟩ := (hk.keep s3).get (K := K)
      refine ⟨_, rfl, kp, pdx, pfs, rfl, g1, g5 _ (by decide +kernel) (by decide +kernel) (by decide +kernel), ?_⟩
      refine ⟨_, rfl, kp, .ref c, some (d.map V.str), ks, rfl, hk.keep s3, DeedIs.of (s3 _ _ hc) (by omega) m3, g.kb, fun H4 s4 => ?_⟩
      rw [(fit.md d md).due g lb]
      have s34 := s3.trans s4
      refine ⟨_, rfl, rfl, _, rfl, iteF ?_⟩
      refine ⟨_, rfl, _, _, _, _, _, rfl, .own (Cs .noted), ty s34, T.kN _, _, rfl, ?_⟩
      by_cases ew : e.w = .noted
      · rw [decide_eq_true ew]
        refine iteT ?_
        obtain ⟨z, zr, rfl⟩ : ∃ z zr, d = z :: zr := by
          cases d with
          | nil => exact absurd rfl (fit.md [] md).ne
          | cons z zr => exact ⟨z, zr, rfl⟩
        refine ⟨_, rfl, c, _, 0, .str z, rfl, rfl, SqT.of (s34 _ _ hc), atI0 _ _, _, rfl, p, _, dx, fs, _, rfl, s34 _ _ h1, (EX _).cl, (EX _).nN, h3, nm, _, rfl, .inr (SqT.of (s34 _ _ h6)), rfl, flat_strs _, _, rfl, ?_⟩
        rw [if_pos rfl, inV_strs, decide_eq_true (show z ∈ e.names from fit.nt ew _ md)]
        exact iteF ⟨_, _, rfl, s34⟩
      · rw [decide_eq_false ew]
        exact iteF (iteF ⟨_, _, rfl, s34⟩)
    · rintro σ H3 ⟨v2, v3, rfl, s3⟩
      exact k _ s3
end
end Kx

set_option maxHeartbeats 8000000
namespace Kx
open PySem L2
/-! Abstract: made of good parts -/
def aFs (k y : Addr) (w : Bool) : List (Str × V) := putF "whole" (.bl w) (putF "years" (.ref y) (putF "kinds" (.ref k) []))
theorem s_kw : ¬ (Str.ofString "kinds") = Str.ofString "whole" := by decide +kernel
theorem s_yw : ¬ (Str.ofString "years") = Str.ofString "whole" := by decide +kernel
theorem aFs_k (k y : Addr) (w : Bool) : (aFs k y w).lookup ("kinds" : Str) = some (.ref k) := by
  unfold aFs
  rw [lookup_putF, if_neg s_kw, lookup_putF, if_neg s_ky, lookup_putF, if_pos rfl]
theorem aFs_y (k y : Addr) (w : Bool) : (aFs k y w).lookup ("years" : Str) = some (.ref y) := by
  unfold aFs
  rw [lookup_putF, if_neg s_yw, lookup_putF, if_pos rfl]
theorem aFs_w (k y : Addr) (w : Bool) : (aFs k y w).lookup ("whole" : Str) = some (.bl w) := by
  unfold aFs
  rw [lookup_putF, if_pos rfl]
theorem aFs_no (k y : Addr) (w : Bool) {m : Str} (h1 : ¬ m = Str.ofString "kinds") (h2 : ¬ m = Str.ofString "years") (h3 : ¬ m = Str.ofString "whole") : (aFs k y w).lookup m = none := by
  unfold aFs
  rw [lookup_putF, if_neg h3, lookup_putF, if_neg h2, lookup_putF, if_neg h1]
  rfl
structure AbsAt (CA CK : Addr) (Cs : Ew → Addr) (H : Hp) (p : Addr) (ks : List (Str × Int)) (es : List En) (w : Bool) : Prop where
  ex : ∃ (dx : Addr) (fs : List (Str × V)) (kp yt : Addr) (xs : List V), H p = some (.ins CA dx fs) ∧ fs.lookup ("kinds" : Str) = some (.ref kp) ∧ fs.lookup ("years" : Str) = some (.ref yt) ∧ fs.lookup ("whole" : Str) = some (.bl w) ∧
    (∀ m : Str, ¬ m = Str.ofString "kinds" → ¬ m = Str.ofString "years" → ¬ m = Str.ofString "whole" → fs.lookup m = none) ∧ KindsAt CK H kp (vv ks) ∧ H yt = some (.tup xs) ∧ Paired (EnV Cs H) xs es
theorem AbsAt.keep {CA CK : Addr} {Cs : Ew → Addr} {H H' : Hp} {p : Addr} {ks : List (Str × Int)} {es : List En} {w : Bool} (h : AbsAt CA CK Cs H p ks es w) (s : Same H H') : AbsAt CA CK Cs H' p ks es w := by
  obtain ⟨dx, fs, kp, yt, xs, h1, h2, h3, h4, h5, h6, h7, h8⟩ := h.ex
  exact ⟨dx, fs, kp, yt, xs, s _ _ h1, h2, h3, h4, h5, h6.keep s, s _ _ h7, pr_imp h8 fun _ _ q => q.keep s⟩
structure AC (K : PySem.W.Frag) (C : Addr) : Prop where
  cl : Cls K C
  nK : NoAttr K C "kinds"
  nY : NoAttr K C "years"
  nW : NoAttr K C "whole"
theorem EnAt.but {Cs : Ew → Addr} {H H' : Hp} {p q C dx : Addr} {e : En} (h : EnAt Cs H q e) (hp : H p = some (.ins C dx [])) (b : But p H H') : EnAt Cs H' q e := by
  obtain ⟨d, fs, t, n, h1, h2, h3, h4, h5, h6⟩ := h.ex
  have qp : q ≠ p := fun z => by
    rw [z, hp] at h1
    cases h1
    cases h2
  exact ⟨d, fs, t, n, b _ _ h1 qp, h2, h3, h4, h5.but hp b, b _ _ h6 fun z => by rw [z, hp] at h6; cases h6⟩
theorem EnV.but {Cs : Ew → Addr} {H H' : Hp} {p C dx : Addr} {x : V} {e : En} (h : EnV Cs H x e) (hp : H p = some (.ins C dx [])) (b : But p H H') : EnV Cs H' x e := by
  obtain ⟨q, ex, h⟩ := h
  exact ⟨q, ex, h.but hp b⟩
theorem But.wo {p : Addr} {H H' : Hp} (b : But p H H') : Same (wo p H) H' := fun c o e => b c o (wo_get e).1 (wo_get e).2
def spAInit (K : PySem.W.Frag) (CA CK : Addr) (Cs : Ew → Addr) : Sp := fun vs H Q _ => ∃ (p dx kp b : Addr) (w : Bool) (ks : List (Str × Int)) (ps : List Str) (xs : List V) (es : List En), vs = [.ref p, .ref kp, .ref b, .bl w] ∧ H p = some (.ins CA dx []) ∧ kp ≠ p ∧ KindsAt CK H kp (vv ks) ∧ H b = some (.lst xs) ∧ Paired (EnV Cs H) xs es ∧ es.length ≤ 200 ∧
  (∀ e ∈ es, EnFit ks ps e ∧ e.names.length ≤ 1000) ∧ GoodK ks ∧ (∀ y ∈ ps, Lb y) ∧ ps.length ≤ 8 ∧ ∀ H', But p H H' → AbsAt CA CK Cs H' p ks es w → Q .non H'
abbrev nAInit : List Str := ["self", "kinds", "years", "whole", "index", "entry", "word"]
section
variable {P : Program} {w : World} {K : PySem.W.Frag} {mg : Str → Option Value} {base : Heap}
theorem scAInit : FnScope nAInit ["self", "kinds", "years", "whole"] (defScope sAbstract_init) := ⟨rfl, rfl, rfl, by decide +kernel, rfl, by decide +kernel, by decide +kernel⟩
theorem ok_ainit {f CA CK : Addr} {fd : FuncData} {Cs : Ew → Addr} {kws : List (Str × V)} (F : FunD K "__init__" "Abstract.__init__" (defArgs sAbstract_init) (defBody sAbstract_init) (defScope sAbstract_init) [] kws f fd) (T : Bl mg) (B : Bm mg) (KX : KC K CK) (AX : AC K CA) (mK : mg "Kinds" = some (.ref CK)) (mM : ∃ t, mg "MOST_ENTRIES" = some (.int 200 t)) (Sq : HasF P w K mg base "is_sequence" 1 ["thing"] (spSeqK K))
    (EF : HasF P w K mg base "_entry_fault" 3 ["kinds", "entry"] (spEFault K Cs CK)) (CP : HasF P w K mg base "_check_persons" 2 ["entries"] (spCheckP K Cs)) : FnOk P w K mg base (L2.CX P w) 4 f fd ["self", "kinds", "years", "whole"] (spAInit K CA CK Cs) := by
  obtain ⟨f1, fd1, Sq⟩ := Sq; obtain ⟨f2, fd2, EF⟩ := EF; obtain ⟨f3, fd3, CP⟩ := CP
  obtain ⟨tM, mM⟩ := mM
  refine F.ok scAInit (fun vs H Q E h => ?_) (fun cdv A outer s H vs Q E hr h => ?_)
  · obtain ⟨a, b, c, d, e, g, i, j, l, rfl, _⟩ := h
    rfl
  · obtain ⟨p, dx, kp, b, wh, ks, ps, xs, es, rfl, hp, kne, hk, hb, px, le, fit, g, lb, lp, k⟩ := h
    have hq : IsSeq K H b xs := .lst hb
    have hr1 : Room 1 _ := hr.mono (by decide)
    have hr2 : Room 2 _ := hr.mono (by decide)
    have hr3 : Room 3 _ := hr.mono (by decide)
    refine ⟨_, (pss_cons (ps_if (pt_not (pt_val (pe_callB call_isi (by rfl) B.isinstance (by decide +kernel) (pa_cons (pv 1) (pa_cons (pe_glob (v := .ref CK) rfl mK rfl) pa_nil))))) pss_never pss_nil)
    (pss_cons (ps_if (pt_not (pt_val (pe_callB call_isi (by rfl) B.isinstance (by decide +kernel) (pa_cons (pv 3) (pa_cons (pe_bltn (v := .ty "bool") (by rfl) B.bool (by decide +kernel) rfl) pa_nil))))) pss_never pss_nil)
    (pss_cons (ps_if (pt_not (pt_val (pe_call Sq.G hr1 (by rfl) Sq.m Sq.kp Sq.b .nil pass0 (pa_cons (pv 2) pa_nil)))) pss_never pss_nil)
    (pss_cons (ps_if (pt_cmpR op_gt (pe_callB call_len_seq (by rfl) T.len PySem.boot_len (pa_cons (pv 2) pa_nil)) (pe_glob (v := .int 200) rfl mM ⟨_, rfl⟩) (nomark _)) pss_never pss_nil)
    (C8.pss_cut (ps_for (passes_of rfl) rfl (pi_enumB (by rfl) T.enumerate (pa_cons (pv 2) pa_nil)) (pg_tup rfl (pgs_cons (pg_name (i := 4) scAInit.nd rfl (Or.inl rfl)) (pgs_cons (pg_name (i := 5) scAInit.nd rfl (Or.inl rfl)) pgs_nil)))
        (pss_cons (ps_set (i := 6) scAInit.nd rfl (Or.inl rfl) (pe_call EF.G hr3 (by rfl) EF.m EF.kp EF.b .nil pass0 (pa_cons (pv 1) (pa_cons (pv 5) pa_nil))))
    (pss_one (ps_if (pt_cmpR op_notN (pv 6) pe_non (nomark _)) pss_never pss_nil))))
    (pss_cons (ps_expr (pe_call CP.G hr2 (by rfl) CP.m CP.kp CP.b .nil pass0 (pa_cons (pv 2) pa_nil)))
    (pss_cons (ps_fld (pv 0) (pv 1) rfl)
    (pss_cons (ps_fld (pv 0) (pe_callTy (call_tupK (K := K) rfl) (by rfl) B.tuple (by decide +kernel) (pa_cons (pv 2) pa_nil)) rfl)
    (pss_one (ps_fld (pv 0) (pv 3) rfl)))))))))), ?_⟩
    obtain ⟨kdx, kfs, _, _, _, _, g1, _⟩ := hk.get (K := K)
    refine ⟨_, rfl, _, _, _, _, _, rfl, .own CK, KX.ty g1, kit_self, _, rfl, iteF ?_⟩
    refine ⟨_, rfl, .bl wh, _, _, _, _, rfl, .ty _, (Kd.bl (H := H) wh).ty, kit_ty (kit_bool (Kd.bl (H := H) wh).kits), _, rfl, ?_⟩
    refine iteF ?_
    obtain ⟨tn, t1, t2, t3⟩ := hq.ty
    have lx := Paired.length px
    refine ⟨_, rfl, .ref b, true, rfl, ⟨tn, t1, t2, t3⟩, fun H1 s1 => ⟨_, rfl, iteF ?_⟩⟩
    refine ⟨_, rfl, b, xs, rfl, (hq.keep s1).sq, _, _, rfl, rfl, _, rfl, ?_⟩
    rw [decide_eq_false (by omega)]
    refine iteF ?_
    refine ⟨fun σ H2 => (∃ v4 v5 v6 : Option V, σ = [some (.ref p), some (.ref kp), some (.ref b), some (.bl wh), v4, v5, v6]) ∧ Same H H2, ?_, ?_⟩
    · refine ⟨_, rfl, b, xs, rfl, for_enumB (K := K) (a := b) (xs := xs) (fun i σ H2 => (∃ v4 v5 v6 : Option V, σ = [some (.ref p), some (.ref kp), some (.ref b), some (.bl wh), v4, v5, v6]) ∧ Same H H2) ⟨⟨none, none, none, rfl⟩, s1⟩ ?_ ?_ ?_⟩
      · rcases hq.both with hq | hq
        · exact .inl fun i σ H2 ⟨_, s⟩ => hq _ s
        · exact .inr fun i σ H2 ⟨_, s⟩ => hq _ s
      · rintro i x σ H2 t hi ⟨⟨v4, v5, v6, rfl⟩, s2⟩ ht
        obtain ⟨e, he, q, rfl, hx⟩ := pr_get px hi
        have s3 : Same H (upd H2 t (.tup [.int (i : Nat), .ref q])) := sameUpd s2 ht
        obtain ⟨ft, fl⟩ := fit e (List.mem_of_getElem? he)
        refine ⟨t, _, rfl, SqT.of upd_same, rfl, _, _, rfl, _, _, rfl, rfl, ?_⟩
        refine ⟨_, rfl, _, rfl, kp, q, ks, ps, e, rfl, hk.keep s3, hx.keep s3, ft, g, lb, fl, fun H4 s4 => ?_⟩
        exact ⟨_, rfl, rfl, _, rfl, iteF ⟨⟨_, _, _, rfl⟩, s3.trans s4⟩⟩
      · rintro σ H2 ⟨q, s2⟩
        exact ⟨q, s2⟩
    rintro σ H2 ⟨⟨v4, v5, v6, rfl⟩, s2⟩
    refine ⟨_, rfl, b, xs, es, ks, ps, rfl, hq.keep s2, pr_imp px fun _ _ q => q.keep s2, fun e he => (fit e he).1, g, lp, fun H3 s3 => ?_⟩
    have s23 := s2.trans s3
    have hp3 := s23 _ _ hp
    have bp : b ≠ p := fun z => by rw [z, hp] at hb; cases hb
    refine ⟨_, rfl, _, rfl, p, _, dx, _, rfl, hp3, AX.cl, AX.nK, (by decide), ?_⟩
    refine ⟨_, rfl, b, xs, rfl, .inl ⟨SqL.of (by rw [upd_ne bp]; exact s23 _ _ hb), fun l hl => ?_⟩⟩
    have pl : p ≠ l := ne_of_none upd_same hl
    refine ⟨_, rfl, p, _, dx, _, rfl, by rw [upd_ne pl]; exact upd_same, AX.cl, AX.nY, (by rw [show (putF "kinds" (V.ref kp) []).length = 1 from rfl]; decide), ?_⟩
    refine ⟨_, rfl, _, rfl, p, _, dx, _, rfl, upd_same, AX.cl, AX.nW, (by rw [show (putF "years" (V.ref l) (putF "kinds" (V.ref kp) [])).length = 2 from rfl]; decide), ?_⟩
    have bt : But p H3 (upd (upd (upd (upd H3 p (.ins CA dx (putF "kinds" (.ref kp) []))) l (.tup xs)) p (.ins CA dx (putF "years" (.ref l) (putF "kinds" (.ref kp) [])))) p (.ins CA dx (aFs kp l wh))) := ((((But.of (Same.refl _)).upd).new hl).upd).upd
    have bH : But p H (upd (upd (upd (upd H3 p (.ins CA dx (putF "kinds" (.ref kp) []))) l (.tup xs)) p (.ins CA dx (putF "years" (.ref l) (putF "kinds" (.ref kp) [])))) p (.ins CA dx (aFs kp l wh))) := fun c o e ne => bt c o (s23 _ _ e) ne
    exact k _ bH ⟨dx, aFs kp l wh, kp, l, xs, upd_same, aFs_k _ _ _, aFs_y _ _ _, aFs_w _ _ _, fun m a b c => aFs_no _ _ _ a b c, (hk.off hp kne).keep bH.wo, by rw [upd_ne pl.symm, upd_ne pl.symm]; exact upd_same, pr_imp px fun _ _ q => q.but hp bH⟩
/-- a new abstract -/
theorem abs_new {CA CK : Addr} {Cs : Ew → Addr} {H : Hp} {kp b x dx : Addr} {wh : Bool} {ks : List (Str × Int)} {ps : List Str} {xs : List V} {es : List En} {Q : VK} {E : XK} (hk : KindsAt CK H kp (vv ks)) (hb : H b = some (.lst xs)) (px : Paired (EnV Cs H) xs es) (le : es.length ≤ 200)
    (fit : ∀ e ∈ es, EnFit ks ps e ∧ e.names.length ≤ 1000) (g : GoodK ks) (lb : ∀ y ∈ ps, Lb y) (lp : ps.length ≤ 8) (hx : H x = none) (hdx : H dx = none) (k : ∀ H', Same H H' → AbsAt CA CK Cs H' x ks es wh → Q .non H') :
    spAInit K CA CK Cs [.ref x, .ref kp, .ref b, .bl wh] (upd (upd H dx (.own x)) x (.ins CA dx [])) Q E := by
  have nx : ∀ b o, H b = some o → b ≠ x := fun b o e z => by rw [z, hx] at e; cases e
  have nd : ∀ b o, H b = some o → b ≠ dx := fun b o e z => by rw [z, hdx] at e; cases e
  have s1 : Same H (upd (upd H dx (.own x)) x (.ins CA dx [])) := fun b o e => by rw [upd_ne (nx b o e), upd_ne (nd b o e)]; exact e
  obtain ⟨kdx, kfs, _, _, _, _, i1, _⟩ := hk.get (K := K)
  exact ⟨x, dx, kp, b, wh, ks, ps, xs, es, rfl, upd_same, nx _ _ i1, hk.keep s1, s1 _ _ hb, pr_imp px fun _ _ q => q.keep s1, le, fit, g, lb, lp, fun H' bt ha => k H' (fun c o e => bt c o (s1 c o e) (nx c o e)) ha⟩
end
end Kx

set_option maxHeartbeats 8000000
namespace Kx
open PySem PySem.Spec PyProof.Rows L2
/-! own errors without fields; zip of two tuples; __len__, fills -/
section
variable {X : Cx} {C : Addr} {bmB : List Value} {B newId initId : String}
theorem pmk_own0 {x : Str} {p pos : Pos} (F : ExcBaseFacts B newId initId bmB) (q : PySem.W.excIn X.K C bmB newId = true) (gC : X.mg x = some (.ref C)) (kC : PySem.W.keepIn X.K (.ref C) = true) (r : Raises X (.ref C)) (hg : Gl X x)
    (hdb : (x == ("__debug__" : Str)) = false := by decide) : PMk X (.Call (.Name x p) [] [] pos) (fun _ H Q => Q (.ref C) none H) := by
  intro pins s σ H Q I h
  refine wpAny_Call_Name_kw (ld_glob I hg gC ?_ hdb)
  refine PySem.W.callWith_K0 I.kIn kC ?_
  show wpAny _ _ (call (.ref C) []) _ _ _
  obtain ⟨bm, N, nm, qn, bs, hdct, sn, sub, ab, col, dd, k0, k1, k2, k3, k5, mN, hC, hN, hni, T⟩ := exc_obj I.kIn q
  refine wpAny_call_exc_subT F T hC hN hni (fun h' e hm => ?_) (Nat.zero_le _)
  exact mk_of I hm r h (I.hok.gone hm.new)
end
/-- what is known of an own error without fields -/
structure OwnE (K : PySem.W.Frag) (mg : Str → Option Value) (x : Str) (C : Addr) (B newId initId : String) (bmB : List Value) : Prop where
  F : ExcBaseFacts B newId initId bmB
  q : PySem.W.excIn K C bmB newId = true
  m : mg x = some (.ref C)
  kp : PySem.W.keepIn K (.ref C) = true
  sub : PySem.W.subIn K (.ref C) (.type "BaseException") = some true
  ty : PySem.W.typeIn K (.ref C) = some (.type "type")
theorem Ys.cut {H : Hp} {x : Addr} {ys : List (List (List Str))} (h : Ys .tup H (.ref x) ys) : ∃ xs, H x = some (.tup xs) ∧ Paired (Ds .tup H) xs ys := by
  obtain ⟨a, xs, e, h1, h2⟩ := h
  cases e
  exact ⟨xs, h1, h2⟩
def zipAt {α β : Type} (f : α → β → Bool) : Option α → Option β → Bool
  | some a, some b => f a b
  | _, _ => true
theorem zip_range {α β : Type} (f : α → β → Bool) {as : List α} {bs : List β} {n : Nat} (ha : as.length = n) : ((List.range n).map (fun i => zipAt f as[i]? bs[i]?)).all id = (as.zip bs).all fun p => f p.1 p.2 := by
  rw [Bool.eq_iff_iff, zip_all, List.all_map, List.all_eq_true]
  refine ⟨fun h i a b e1 e2 => ?_, fun h i hi => ?_⟩
  · have := h i (List.mem_range.mpr (by rw [← ha]; exact (List.getElem?_eq_some_iff.mp e1).1))
    rw [Function.comp] at this
    dsimp only [id] at this
    rw [e1, e2] at this
    exact this
  · rw [Function.comp]
    dsimp only [id]
    cases e1 : as[i]? with
    | none => rfl
    | some a =>
      cases e2 : bs[i]? with
      | none => rfl
      | some b => exact h i a b e1 e2
/-- a comprehension over zip of two tuples of one length, without tests, each step giving a truth -/
theorem lc_zipB {K : PySem.W.Frag} {a b : Addr} {xs ys : List V} {g : TG} {te : TE} {vs : List Nat} {σ : L2.St} {H1 : Hp} {Qd : Addr → Hp → Prop} (f : Nat → Bool) (hl : xs.length = ys.length) (lx : xs.length ≤ 1000) (qa : H1 a = some (.tup xs)) (qb : H1 b = some (.tup ys))
    (step : ∀ i x y T H (k : V → Hp → Prop) (k2 : Hp → Prop), xs[i]? = some x → ys[i]? = some y → Same H1 H → H T = some (.tup [x, y]) → (∀ H4, Same H H4 → k (.bl (f i)) H4) → g (.ref T) (wipe σ vs) H fun σ2 H2 => wipe σ2 vs = wipe σ vs ∧ tYes σ2 H2 fun b H3 => if b = true then te σ2 H3 k else k2 H3)
    (after : ∀ D H, Same H1 H → H D = some (.lst (((List.range xs.length).map f).map V.bl)) → Qd D H) :
    (SqL K H1 a xs ∧ SqL K H1 b ys ∧ LcE (Itz K a b) g tYes te vs σ H1 Qd) ∨ (SqT K H1 a xs ∧ SqT K H1 b ys ∧ LcE (RZ.ItzT K a b) g tYes te vs σ H1 Qd) := by
  refine .inr ⟨SqT.of qa, SqT.of qb, fun D hD => ?_⟩
  refine ⟨fun i m H => m + i = xs.length ∧ Same H1 H ∧ H D = some (.lst (((List.range i).map f).map V.bl)), ⟨xs.length, by omega, sameUpd (Same.refl _) hD, upd_same⟩, fun i m H u => ?_⟩
  obtain ⟨e, s, hd⟩ := u
  cases m with
  | zero =>
    obtain rfl : i = xs.length := by omega
    exact .inl ⟨⟨xs, ys, SqT.of (s _ _ qa), SqT.of (s _ _ qb), .inl (Nat.le_refl _)⟩, after D H s hd⟩
  | succ m =>
    have lt : i < xs.length := by omega
    have lt2 : i < ys.length := by omega
    refine .inr ⟨⟨xs, ys, xs[i], ys[i], SqT.of (s _ _ qa), SqT.of (s _ _ qb), List.getElem?_eq_getElem lt, List.getElem?_eq_getElem lt2⟩, fun H' => Same H1 H' ∧ H' D = some (.lst (((List.range (i + 1)).map f).map V.bl)), fun H' u' => ⟨m, Nat.lt_succ_self _, by omega, u'⟩, fun v H' y => ?_⟩
    obtain ⟨T, x, z, rfl, free, rfl, e1, e2⟩ := y
    have hx := e1 xs (SqT.of (s _ _ qa))
    have hz := e2 ys (SqT.of (s _ _ qb))
    have hDT : D ≠ T := ne_of_none hd free
    refine step i x z T (L2.upd H T (.tup [x, z])) _ _ hx hz (sameUpd s free) upd_same fun H4 s4 => ?_
    refine ⟨_, s4 _ _ (by rw [upd_ne hDT]; exact hd), line2 (by rw [List.length_map, List.length_map, List.length_range]; omega), woD hD (sameUpd s free) s4, ?_⟩
    rw [upd_same, List.range_succ, List.map_append, List.map_append]
    rfl
theorem cut_drop (xs : List V) (m : Nat) (h : m ≤ xs.length) : cutV xs (some (m : Int)) none = xs.drop m := by
  unfold cutV
  have e1 : HT.sIx xs.length 0 (some (m : Int)) = m := by
    simp [HT.sIx]
    rw [if_neg (by omega)]
    omega
  have e2 : HT.sIx xs.length xs.length none = xs.length := rfl
  rw [e1, e2, List.take_of_length_le (by simp)]
theorem slA_from {K : PySem.W.Frag} {H : Hp} {a : Addr} {xs : List V} {m : Nat} {Q : VK} (ha : H a = some (.tup xs)) (lm : m ≤ xs.length) (k : ∀ t H', Same H H' → H' t = some (.tup (xs.drop m)) → Q (.ref t) H') : rSlA K (.ref a) (some (m : Int)) none H Q := by
  refine ⟨a, xs, rfl, SqT.of ha, fun hw => ?_, fun hw t ht => ?_⟩
  · refine k a _ (Same.refl _) ?_
    have e2 : HT.sIx xs.length 0 (some (m : Int)) = m := by
      simp [HT.sIx]
      rw [if_neg (by omega)]
      omega
    rw [e2] at hw
    rw [hw.1]
    exact ha
  · refine k t _ (sameUpd (Same.refl _) ht) ?_
    rw [cut_drop xs _ lm, upd_same]
section
variable {P : Program} {w : World} {K : PySem.W.Frag} {mg : Str → Option Value} {base : Heap}
theorem hist_free {C CK CB : Addr} {H : Hp} {kp x dx : Addr} {y : V} {ks : List (Str × Int)} {r : Option (List (Option (List (Option (List V)))))} {Q : VK} {E : XK} (hk : KindsAt CK H kp (vv ks)) (kb : kbOk ks) (hy : YearsIs K H y r) (due : yearsDue ks r = none) (hx : H x = none) (hdx : H dx = none)
    (k : ∀ ys H', r = some (yR ys) → Same H H' → HistAt C CK H' x ks ys → Q .non H') : spHist K C CK CB [.ref x, .ref kp, y] (upd (upd H dx (.own x)) x (.ins C dx [])) Q E := by
  have nx : ∀ b o, H b = some o → b ≠ x := fun b o e z => by rw [z, hx] at e; cases e
  have nd : ∀ b o, H b = some o → b ≠ dx := fun b o e z => by rw [z, hdx] at e; cases e
  have s1 : Same H (upd (upd H dx (.own x)) x (.ins C dx [])) := fun b o e => by rw [upd_ne (nx b o e), upd_ne (nd b o e)]; exact e
  obtain ⟨kdx, kfs, _, _, _, _, i1, _⟩ := hk.get (K := K)
  refine ⟨x, dx, _, y, r, rfl, upd_same, hy.keep s1, .inr ⟨kp, ks, rfl, nx _ _ i1, hk.keep s1, kb, ?_⟩⟩
  rw [due]
  exact fun ys H' e s hh => k ys H' e (fun b o q => s b o (s1 b o q) (nx b o q)) hh
def spALen (CA CK : Addr) (Cs : Ew → Addr) : Sp := fun vs H Q _ => ∃ (p : Addr) (ks : List (Str × Int)) (es : List En) (wh : Bool), vs = [.ref p] ∧ AbsAt CA CK Cs H p ks es wh ∧ Q (.int (es.length : Nat)) H
theorem scALen : FnScope ["self"] ["self"] (defScope sAbstract_len) := ⟨rfl, rfl, rfl, by decide +kernel, rfl, by decide +kernel, by decide +kernel⟩
theorem ok_alen {f CA CK : Addr} {fd : FuncData} {Cs : Ew → Addr} (F : Fun K "__len__" "Abstract.__len__" sAbstract_len f fd) (T : Bl mg) (AX : AC K CA) : FnOk P w K mg base CX0 1 f fd ["self"] (spALen CA CK Cs) := by
  refine F.ok scALen (fun vs H Q E h => ?_) (fun cdv A outer s H vs Q E hr h => ?_)
  · obtain ⟨p, ks, es, wh, rfl, _⟩ := h
    rfl
  · obtain ⟨p, ks, es, wh, rfl, ha, k⟩ := h
    obtain ⟨dx, fs, kp, yt, xs, h1, h2, h3, h4, h5, h6, h7, h8⟩ := ha.ex
    refine ⟨_, pss_one (ps_ret (pe_callB call_len_seq (by rfl) T.len PySem.boot_len (pa_cons (pe_fld (pv 0) rfl) pa_nil))), ?_⟩
    refine ⟨_, rfl, p, CA, dx, fs, _, rfl, h1, AX.cl, AX.nY, h3, yt, _, rfl, .inr (SqT.of h7), ?_⟩
    rw [Paired.length h8]
    exact k
structure Zm (mg : Str → Option Value) : Prop where
  zip : mg "zip" = none
  len : mg "len" = none
  all : mg "all" = none
/-- years that may be asked -/
def OkYs (ys : List (List Deed)) : Prop := ys.length ≤ 2000000 ∧ ∀ y ∈ ys, y.length ≤ 1000 ∧ ∀ d ∈ y, d ≠ [] ∧ ∀ z ∈ d, PyData.strOk z = true
def spFills (CA C CK CO : Addr) (Cs : Ew → Addr) : Sp := fun vs H Q E => ∃ (p h : Addr) (ks ls : List (Str × Int)) (es : List En) (wh : Bool) (ys : List (List Deed)), vs = [.ref p, .ref h] ∧ AbsAt CA CK Cs H p ks es wh ∧ HistAt C CK H h ls ys ∧ OkK ks ∧ OkK ls ∧
  ((ks ≠ ls ∧ E (.ref CO) none H) ∨ (ks = ls ∧ ks.length ≤ 1000 ∧ es.length ≤ 1000 ∧ (∀ e ∈ es, EnOk e) ∧ OkYs ys ∧ ∀ H', Same H H' → Q (.bl (fillsA (ks.map (·.1)) es wh ys)) H'))
abbrev nFills : List Str := ["self", "history", "last", "entry", "year"]
theorem scFills : FnScope nFills ["self", "history"] (defScope sAbstract_fills) := ⟨rfl, rfl, rfl, by decide +kernel, rfl, by decide +kernel, by decide +kernel⟩
theorem ok_fills {f CA C CK CO gE gH gA gL : Addr} {fd fdE fdH fdA fdL : FuncData} {Cs : Ew → Addr} {B newId initId : String} {bmB : List Value} (F : Fun K "fills" "Abstract.fills" sAbstract_fills f fd) (Z : Zm mg) (AX : AC K CA) (HX : HC K C) (KX : KC K CK) (EX : ∀ k, EC K (Cs k)) (OE : OwnM P w K mg base CK "__eq__" 1 ["self", "other"] (spKEq CK) gE fdE) (ne : PySem.W.findIn K (.ref CK) "__ne__" = some (some (.builtin "object.__ne__")))
    (EO : OwnE K mg "OtherKinds" CO B newId initId bmB) (OL : OwnM P w K mg base C "__len__" 1 ["self"] (spHLen C CK) gH fdH) (OA : OwnM P w K mg base CA "__len__" 1 ["self"] (spALen CA CK Cs) gA fdA) (LT : LtM P w K mg base Cs CK gL fdL) : FnOk P w K mg base (L2.CX P w) 4 f fd ["self", "history"] (spFills CA C CK CO Cs) := by
  refine F.okX scFills (fun vs H Q E h => ?_) (fun cdv A' outer s H vs Q E hr h => ?_)
  · obtain ⟨a, b, c, d, e, g, i, rfl, _⟩ := h
    rfl
  · obtain ⟨p, h, ks, ls, es, wh, ys, rfl, ha, hh, ok, ol, cs⟩ := h
    have hr1 : Room 1 _ := hr.mono (by decide)
    have hr2 : Room 2 _ := hr.mono (by decide)
    have hr3 : Room 3 _ := hr.mono (by decide)
    refine ⟨_, (pss_cons (ps_if (pt_cmpR (op_neOwn KX.cm ne OE.M.at_ OE.M.fn OE.raw hr2 pass0) (pe_fld (pv 0) rfl) (pe_fld (pv 1) rfl) (nomark _)) (pss_one (ps_raise rfl (takes_of rfl rfl rfl rfl) (pmk_own0 EO.F EO.q EO.m EO.kp (raises_own EO.sub EO.ty) (by rfl)))) pss_nil)
    (C8.pss_cut (ps_if (PW.pt (pw_or (pt_cmpR op_lt (pe_callB (call_lenOwn OL.M.at_ OL.M.fn OL.raw hr2 pass0) (by rfl) Z.len PySem.boot_len (pa_cons (pv 1) pa_nil)) (pe_callB (call_lenOwn OA.M.at_ OA.M.fn OA.raw hr2 pass0) (by rfl) Z.len PySem.boot_len (pa_cons (pv 0) pa_nil)) (nomark _)) (pw_or1 (PW.pt (pw_and (pt_val (pe_fld (pv 0) rfl)) (pw_and1 (pt_cmpR op_gt (pe_callB (call_lenOwn OL.M.at_ OL.M.fn OL.raw hr2 pass0) (by rfl) Z.len PySem.boot_len (pa_cons (pv 1) pa_nil)) (pe_callB (call_lenOwn OA.M.at_ OA.M.fn OA.raw hr2 pass0) (by rfl) Z.len PySem.boot_len (pa_cons (pv 0) pa_nil)) (nomark _)))))))) (pss_one (ps_ret pe_bl)) pss_nil)
    (pss_cons (ps_set (i := 2) scFills.nd rfl (Or.inl rfl) (pe_slice sl_tupA (pe_fld (pv 1) rfl) (po_some (pe_op op_sub (pe_callB (call_lenOwn OL.M.at_ OL.M.fn OL.raw hr2 pass0) (by rfl) Z.len PySem.boot_len (pa_cons (pv 1) pa_nil)) (pe_callB (call_lenOwn OA.M.at_ OA.M.fn OA.raw hr2 pass0) (by rfl) Z.len PySem.boot_len (pa_cons (pv 0) pa_nil)))) po_none))
    (pss_one (ps_ret (pe_callB (cr_all rfl) (by rfl) Z.all (by decide +kernel) (pa_cons (pe_lc (own := [("entry", 3), ("year", 4)]) (g := gTup K 2 (gCons (gName 3) (gCons (gName 4) gNil))) (tt := tYes) (te := fun σ H Q => ∃ k : Ew, tMeth (Cs k) "lets" (spLets K Cs CK) [] E0 (tVar 3) (tCons (tFld K (tVar 0) "kinds") (tCons (tVar 4) tNil)) σ H Q) (by rfl) scFills.nd (RZ.pi_zipA (by rfl) Z.zip (pa_cons (pe_fld (pv 0) rfl) (pa_cons (pv 2) pa_nil))) (blkOk_by (own := [("entry", 3), ("year", 4)]) (N := nFills) (sc := defScope sAbstract_fills) (by decide +kernel))
          (fun _ _ _ _ _ => pg_tup rfl (pgs_cons (pg_name (i := 3) scFills.nd rfl (.inl rfl)) (pgs_cons (pg_name (i := 4) scFills.nd rfl (.inl rfl)) pgs_nil))) (fun _ _ _ _ _ => pts_nil) (fun _ _ _ _ _ => pe_ex (fun k => pe_meth (pv 3) (EX k).cl (LT.M k) LT.G hr3 LT.b .nil pass0 (pa_cons (pe_fld (pv 0) rfl) (pa_cons (pv 4) pa_nil))))) pa_nil))))))), ?_⟩
    obtain ⟨dx, fs, kp, yt, xs, h1, h2, h3, h4, h5, h6, h7, h8⟩ := ha.ex
    obtain ⟨dx', fs', kp', yt', g1, g2, g3, g4, g5, g6⟩ := hh.ob
    obtain ⟨kdx, kfs, _, _, _, _, i1, _⟩ := h6.get (K := K)
    obtain ⟨kdx', kfs', _, _, _, _, i1', _⟩ := g5.get (K := K)
    obtain ⟨xs', hx', px'⟩ := g6.cut
    refine ⟨_, rfl, p, CA, dx, fs, _, rfl, h1, AX.cl, AX.nK, h2, _, rfl, h, C, dx', fs', _, rfl, g1, HX.cl, HX.nK, g2, ?_⟩
    refine ⟨kp, kdx, kfs, kp', kdx', kfs', rfl, i1, rfl, i1', kp, _, ks, rfl, h6, ok, .inl ⟨kp', ls, rfl, g5, ol, _, rfl, _, rfl, ?_⟩⟩
    rcases cs with ⟨e, k⟩ | ⟨e, nk, ne', oke, oky, k⟩
    · rw [decide_eq_false e]
      exact iteT k
    subst e
    rw [decide_eq_true rfl]
    refine iteF ?_
    have lx := Paired.length h8
    have lx' := Paired.length px'
    have ly := oky.1
    refine ⟨fun σ H1 => σ = [some (.ref p), some (.ref h), none, none, none] ∧ H = H1 ∧ ¬ ys.length < es.length ∧ ¬ (wh = true ∧ es.length < ys.length), ?_, ?_⟩
    · refine ⟨_, rfl, h, dx', fs', rfl, g1, h, ks, ys, rfl, hh, _, rfl, by omega, by omega, _, rfl, p, dx, fs, rfl, h1, p, ks, es, wh, rfl, ha, _, rfl, by omega, by omega, _, _, rfl, rfl, _, rfl, ?_⟩
      refine ite2 (fun c1 => ?_) (fun c1 => ?_)
      · have c1 := of_decide_eq_true c1
        have e1 : fillsA (ks.map (·.1)) es wh ys = false := by
          unfold fillsA
          rw [if_pos (.inl (by omega))]
        rw [e1] at k
        exact iteT (k H (Same.refl _))
      have c1 : ¬ ((ys.length : Nat) : Int) < (es.length : Nat) := fun z => c1 (decide_eq_true z)
      refine ⟨_, rfl, p, CA, dx, fs, _, rfl, h1, AX.cl, AX.nW, h4, wh, rfl, ?_⟩
      cases wh with
      | false => exact iteF (iteF ⟨rfl, rfl, by omega, fun z => nomatch z.1⟩)
      | true =>
        refine iteT ⟨_, rfl, h, dx', fs', rfl, g1, h, ks, ys, rfl, hh, _, rfl, by omega, by omega, _, rfl, p, dx, fs, rfl, h1, p, ks, es, true, rfl, ha, _, rfl, by omega, by omega, _, _, rfl, rfl, _, rfl, ?_⟩
        refine ite2 (fun c2 => ?_) (fun c2 => ?_)
        · have c2 := of_decide_eq_true c2
          have e1 : fillsA (ks.map (·.1)) es true ys = false := by
            unfold fillsA
            rw [if_pos (.inr ⟨rfl, by omega⟩)]
          rw [e1] at k
          exact k H (Same.refl _)
        · have c2 : ¬ ((es.length : Nat) : Int) < (ys.length : Nat) := fun z => c2 (decide_eq_true z)
          exact ⟨rfl, rfl, by omega, fun z => by have := z.2; omega⟩
    rintro σ H1 ⟨rfl, rfl, c1, c2⟩
    refine ⟨_, rfl, h, C, dx', fs', _, rfl, g1, HX.cl, HX.nY, g3, _, rfl, h, dx', fs', rfl, g1, h, ks, ys, rfl, hh, _, rfl, by omega, by omega, _, rfl, p, dx, fs, rfl, h1, p, ks, es, wh, rfl, ha, _, rfl, by omega, by omega, _, _, rfl, rfl, _, rfl, ?_⟩
    have e1 : (((ys.length : Nat) : Int) - (es.length : Nat)) = ((ys.length - es.length : Nat) : Int) := by omega
    rw [e1]
    dsimp only [tNoPart]
    refine slA_from hx' (by omega) fun t H1 s1 ht => ?_
    have ef : fillsA (ks.map (·.1)) es wh ys = (es.zip (ys.drop (ys.length - es.length))).all fun p => letsL (freeE (ks.map (·.1)) p.1) p.1.told p.2 := by
      unfold fillsA
      rw [if_neg fun z => z.elim c1 c2]
    have lt : xs.length = (xs'.drop (ys.length - es.length)).length := by rw [List.length_drop]; omega
    refine ⟨_, rfl, p, CA, dx, fs, _, rfl, s1 _ _ h1, AX.cl, AX.nY, h3, _, rfl, yt, t, xs, xs'.drop (ys.length - es.length), rfl, lc_zipB (K := K) (g := gTup K 2 (gCons (gName 3) (gCons (gName 4) gNil))) (te := fun σ H Q => ∃ k : Ew, tMeth (Cs k) "lets" (spLets K Cs CK) [] E0 (tVar 3) (tCons (tFld K (tVar 0) "kinds") (tCons (tVar 4) tNil)) σ H Q) (fun i => zipAt (fun e y => letsL (freeE (ks.map (·.1)) e) e.told y) es[i]? (ys.drop (ys.length - es.length))[i]?) lt (by omega) (s1 _ _ h7) ht ?_ ?_⟩
    · intro i x y T H3 k' k2 hi hy s3 hT kk
      obtain ⟨e, he, q, rfl, hx⟩ := pr_get h8 hi
      obtain ⟨yd, hyd, dy⟩ := pr_get (pr_drop px' (ys.length - es.length)) hy
      rw [he, hyd] at kk
      have kk : ∀ H4, Same H3 H4 → k' (.bl (letsL (freeE (ks.map (·.1)) e) e.told yd)) H4 := kk
      obtain ⟨ya, yxs, rfl, hya, pya⟩ := dy
      have s13 := s1.trans s3
      obtain ⟨de, fe, te, ne, j1, j2, j3, j4, j5, j6⟩ := hx.ex
      have my : yd ∈ ys := List.mem_of_mem_drop (List.mem_of_getElem? hyd)
      have oy := oky.2 yd my
      refine ⟨T, _, rfl, SqT.of hT, rfl, _, _, rfl, _, _, rfl, rfl, rfl, ?_⟩
      refine ⟨e.w, _, rfl, q, de, fe, rfl, s13 _ _ j1, j4 _ (by decide +kernel) (by decide +kernel), _, rfl, p, CA, dx, fs, _, rfl, s13 _ _ h1, AX.cl, AX.nK, h2, _, rfl, ?_⟩
      refine ⟨q, kp, ya, ks, e, yxs, yd, rfl, hx.keep s13, oke e (List.mem_of_getElem? he), h6.keep s13, nk, .tup (s13 _ _ hya), pr_imp pya fun _ _ z => .inr (z.keep s13), oy.1, oy.2, fun H4 s4 => ?_⟩
      rw [lets_same]
      exact kk H4 s4
    · intro D H3 s3 hD
      refine ⟨D, _, rfl, SqL.of hD, ?_⟩
      have k := k H3 (s1.trans s3)
      rw [ef] at k
      rw [← zip_range (fun e y => letsL (freeE (ks.map (·.1)) e) e.told y) lx.symm] at k
      exact k
end
end Kx

set_option maxHeartbeats 8000000
namespace Kx
open PySem PySem.Spec PyProof.Rows L2
/-! is_within -/
def spIsWithin (CA CK CO : Addr) (Cs : Ew → Addr) : Sp := fun vs H Q E => ∃ (p o : Addr) (ks ls : List (Str × Int)) (es fs : List En) (w1 w2 : Bool), vs = [.ref p, .ref o] ∧ AbsAt CA CK Cs H p ks es w1 ∧ AbsAt CA CK Cs H o ls fs w2 ∧ OkK ks ∧ OkK ls ∧
  ((ks ≠ ls ∧ E (.ref CO) none H) ∨ (ks = ls ∧ ks.length ≤ 1000 ∧ es.length ≤ 1000 ∧ fs.length ≤ 1000 ∧ (∀ e ∈ es, EnOk e) ∧ (∀ e ∈ fs, EnOk e) ∧ ∀ H', Same H H' → Q (.bl (withinA (ks.map (·.1)) es w1 fs w2)) H'))
abbrev nWith : List Str := ["self", "other", "last", "one", "wide"]
section
variable {P : Program} {w : World} {K : PySem.W.Frag} {mg : Str → Option Value} {base : Heap}
theorem scWith : FnScope nWith ["self", "other"] (defScope sAbstract_is_within) := ⟨rfl, rfl, rfl, by decide +kernel, rfl, by decide +kernel, by decide +kernel⟩
theorem ok_iswithin {f CA CK CO gE gA : Addr} {fd fdE fdA : FuncData} {Cs : Ew → Addr} {B newId initId : String} {bmB : List Value} (F : Fun K "is_within" "Abstract.is_within" sAbstract_is_within f fd) (Z : Zm mg) (AX : AC K CA) (KX : KC K CK) (OE : OwnM P w K mg base CK "__eq__" 1 ["self", "other"] (spKEq CK) gE fdE) (ne : PySem.W.findIn K (.ref CK) "__ne__" = some (some (.builtin "object.__ne__")))
    (EO : OwnE K mg "OtherKinds" CO B newId initId bmB) (OA : OwnM P w K mg base CA "__len__" 1 ["self"] (spALen CA CK Cs) gA fdA) (EW : HasF P w K mg base "entry_within" 4 ["kinds", "one", "other"] (spEWithin Cs CK)) : FnOk P w K mg base (L2.CX P w) 5 f fd ["self", "other"] (spIsWithin CA CK CO Cs) := by
  obtain ⟨f1, fd1, EW⟩ := EW
  refine F.okX scWith (fun vs H Q E h => ?_) (fun cdv A' outer s H vs Q E hr h => ?_)
  · obtain ⟨a, b, c, d, e, g, i, j, rfl, _⟩ := h
    rfl
  · obtain ⟨p, o, ks, ls, es, fs2, w1, w2, rfl, ha, hh, ok, ol, cs⟩ := h
    have hr1 : Room 1 _ := hr.mono (by decide)
    have hr2 : Room 2 _ := hr.mono (by decide)
    have hr3 : Room 3 _ := hr.mono (by decide)
    refine ⟨_, (pss_cons (ps_if (pt_cmpR (op_neOwn KX.cm ne OE.M.at_ OE.M.fn OE.raw hr2 pass0) (pe_fld (pv 0) rfl) (pe_fld (pv 1) rfl) (nomark _)) (pss_one (ps_raise rfl (takes_of rfl rfl rfl rfl) (pmk_own0 EO.F EO.q EO.m EO.kp (raises_own EO.sub EO.ty) (by rfl)))) pss_nil)
    (C8.pss_cut (ps_if (pt_cmpR op_lt (pe_callB (call_lenOwn OA.M.at_ OA.M.fn OA.raw hr2 pass0) (by rfl) Z.len PySem.boot_len (pa_cons (pv 0) pa_nil)) (pe_callB (call_lenOwn OA.M.at_ OA.M.fn OA.raw hr2 pass0) (by rfl) Z.len PySem.boot_len (pa_cons (pv 1) pa_nil)) (nomark _)) (pss_one (ps_ret pe_bl)) pss_nil)
    (C8.pss_cut (ps_if (PW.pt (pw_and (pt_val (pe_fld (pv 1) rfl)) (pw_and1 (pt_not (PW.pt (pw_and (pt_val (pe_fld (pv 0) rfl)) (pw_and1 (pt_cmpR op_eq (pe_callB (call_lenOwn OA.M.at_ OA.M.fn OA.raw hr2 pass0) (by rfl) Z.len PySem.boot_len (pa_cons (pv 0) pa_nil)) (pe_callB (call_lenOwn OA.M.at_ OA.M.fn OA.raw hr2 pass0) (by rfl) Z.len PySem.boot_len (pa_cons (pv 1) pa_nil)) (nomark _))))))))) (pss_one (ps_ret pe_bl)) pss_nil)
    (pss_cons (ps_set (i := 2) scWith.nd rfl (Or.inl rfl) (pe_slice sl_tupA (pe_fld (pv 0) rfl) (po_some (pe_op op_sub (pe_callB (call_lenOwn OA.M.at_ OA.M.fn OA.raw hr2 pass0) (by rfl) Z.len PySem.boot_len (pa_cons (pv 0) pa_nil)) (pe_callB (call_lenOwn OA.M.at_ OA.M.fn OA.raw hr2 pass0) (by rfl) Z.len PySem.boot_len (pa_cons (pv 1) pa_nil)))) po_none))
    (pss_one (ps_ret (pe_callB (cr_all rfl) (by rfl) Z.all (by decide +kernel) (pa_cons (pe_lc (own := [("one", 3), ("wide", 4)]) (g := gTup K 2 (gCons (gName 3) (gCons (gName 4) gNil))) (tt := tYes) (te := tCall (spEWithin Cs CK) [] E0 (tCons (tFld K (tVar 0) "kinds") (tCons (tVar 3) (tCons (tVar 4) tNil)))) (by rfl) scWith.nd (RZ.pi_zipA (by rfl) Z.zip (pa_cons (pv 2) (pa_cons (pe_fld (pv 1) rfl) pa_nil))) (blkOk_by (own := [("one", 3), ("wide", 4)]) (N := nWith) (sc := defScope sAbstract_is_within) (by decide +kernel))
          (fun _ _ _ _ _ => pg_tup rfl (pgs_cons (pg_name (i := 3) scWith.nd rfl (.inl rfl)) (pgs_cons (pg_name (i := 4) scWith.nd rfl (.inl rfl)) pgs_nil))) (fun _ _ _ _ _ => pts_nil) (fun _ _ _ _ _ => (pe_call EW.G hr (by rfl) EW.m EW.kp EW.b .nil pass0 (pa_cons (pe_fld (pv 0) rfl) (pa_cons (pv 3) (pa_cons (pv 4) pa_nil)))))) pa_nil)))))))), ?_⟩
    obtain ⟨dx, fs, kp, yt, xs, h1, h2, h3, h4, h5, h6, h7, h8⟩ := ha.ex
    obtain ⟨dx', fs', kp', yt', xs', g1, g2, g3, g4, g5, g6, g7, g8⟩ := hh.ex
    obtain ⟨kdx, kfs, _, _, _, _, i1, _⟩ := h6.get (K := K)
    obtain ⟨kdx', kfs', _, _, _, _, i1', _⟩ := g6.get (K := K)
    have lx := Paired.length h8
    have lx' := Paired.length g8
    refine ⟨_, rfl, p, CA, dx, fs, _, rfl, h1, AX.cl, AX.nK, h2, _, rfl, o, CA, dx', fs', _, rfl, g1, AX.cl, AX.nK, g2, ?_⟩
    refine ⟨kp, kdx, kfs, kp', kdx', kfs', rfl, i1, rfl, i1', kp, _, ks, rfl, h6, ok, .inl ⟨kp', ls, rfl, g6, ol, _, rfl, _, rfl, ?_⟩⟩
    rcases cs with ⟨e, k⟩ | ⟨e, nk, ne1, ne2, oke, okf, k⟩
    · rw [decide_eq_false e]
      exact iteT k
    subst e
    rw [decide_eq_true rfl]
    refine iteF ?_
    refine ⟨fun σ H1 => σ = [some (.ref p), some (.ref o), none, none, none] ∧ H = H1 ∧ ¬ es.length < fs2.length, ?_, ?_⟩
    · refine ⟨_, rfl, p, dx, fs, rfl, h1, p, ks, es, w1, rfl, ha, _, rfl, by omega, by omega, _, rfl, o, dx', fs', rfl, g1, o, ks, fs2, w2, rfl, hh, _, rfl, by omega, by omega, _, _, rfl, rfl, _, rfl, ?_⟩
      refine ite2 (fun c1 => ?_) (fun c1 => ?_)
      · have c1 := of_decide_eq_true c1
        have e1 : withinA (ks.map (·.1)) es w1 fs2 w2 = false := by
          unfold withinA
          rw [if_pos (by omega)]
        rw [e1] at k
        exact k H (Same.refl _)
      have c1 : ¬ ((es.length : Nat) : Int) < (fs2.length : Nat) := fun z => c1 (decide_eq_true z)
      exact ⟨rfl, rfl, by omega⟩
    rintro σ H1 ⟨rfl, rfl, c1⟩
    refine ⟨fun σ H1 => σ = [some (.ref p), some (.ref o), none, none, none] ∧ H = H1 ∧ ¬ (w2 = true ∧ ¬ (w1 = true ∧ es.length = fs2.length)), ?_, ?_⟩
    · have lost : (w2 = true ∧ ¬ (w1 = true ∧ es.length = fs2.length)) → Q (.bl false) H := fun c2 => by
        have e1 : withinA (ks.map (·.1)) es w1 fs2 w2 = false := by
          unfold withinA
          rw [if_neg c1, if_pos c2]
        rw [e1] at k
        exact k H (Same.refl _)
      refine ⟨_, rfl, o, CA, dx', fs', _, rfl, g1, AX.cl, AX.nW, g4, w2, rfl, ?_⟩
      cases w2 with
      | false => exact iteF (iteF ⟨rfl, rfl, fun z => nomatch z.1⟩)
      | true =>
        refine iteT ⟨_, rfl, p, CA, dx, fs, _, rfl, h1, AX.cl, AX.nW, h4, w1, rfl, ?_⟩
        cases w1 with
        | false => exact iteF (lost ⟨rfl, fun z => nomatch z.1⟩)
        | true =>
          refine iteT ⟨_, rfl, p, dx, fs, rfl, h1, p, ks, es, true, rfl, ha, _, rfl, by omega, by omega, _, rfl, o, dx', fs', rfl, g1, o, ks, fs2, true, rfl, hh, _, rfl, by omega, by omega, ?_⟩
          refine ⟨rfl, _, rfl, ?_⟩
          by_cases c : es.length = fs2.length
          · rw [decide_eq_true (by rw [c])]
            exact iteF ⟨rfl, rfl, fun z => z.2 ⟨rfl, c⟩⟩
          · rw [decide_eq_false (fun z => c (by injection z with z; omega))]
            exact iteT (lost ⟨rfl, fun z => c z.2⟩)
    rintro σ H1 ⟨rfl, rfl, c2⟩
    refine ⟨_, rfl, p, CA, dx, fs, _, rfl, h1, AX.cl, AX.nY, h3, _, rfl, p, dx, fs, rfl, h1, p, ks, es, w1, rfl, ha, _, rfl, by omega, by omega, _, rfl, o, dx', fs', rfl, g1, o, ks, fs2, w2, rfl, hh, _, rfl, by omega, by omega, _, _, rfl, rfl, _, rfl, ?_⟩
    have e1 : (((es.length : Nat) : Int) - (fs2.length : Nat)) = ((es.length - fs2.length : Nat) : Int) := by omega
    rw [e1]
    dsimp only [tNoPart]
    refine slA_from h7 (by omega) fun t H1 s1 ht => ?_
    have ef : withinA (ks.map (·.1)) es w1 fs2 w2 = ((es.drop (es.length - fs2.length)).zip fs2).all fun p => withinP (freeE (ks.map (·.1)) p.1) p.1.told (freeE (ks.map (·.1)) p.2) p.2.told := by
      unfold withinA
      rw [if_neg c1, if_neg c2]
    have lt : (xs.drop (es.length - fs2.length)).length = xs'.length := by rw [List.length_drop]; omega
    refine ⟨_, rfl, _, rfl, o, CA, dx', fs', _, rfl, s1 _ _ g1, AX.cl, AX.nY, g3, t, yt', xs.drop (es.length - fs2.length), xs', rfl, lc_zipB (K := K) (g := gTup K 2 (gCons (gName 3) (gCons (gName 4) gNil))) (te := tCall (spEWithin Cs CK) [] E0 (tCons (tFld K (tVar 0) "kinds") (tCons (tVar 3) (tCons (tVar 4) tNil)))) (fun i => zipAt (fun a e => withinP (freeE (ks.map (·.1)) a) a.told (freeE (ks.map (·.1)) e) e.told) (es.drop (es.length - fs2.length))[i]? fs2[i]?) lt (by omega) ht (s1 _ _ g7) ?_ ?_⟩
    · intro i x y T H3 k' k2 hi hy s3 hT kk
      obtain ⟨a, hea, q, rfl, hx⟩ := pr_get (pr_drop h8 (es.length - fs2.length)) hi
      obtain ⟨e, he, r, rfl, hy'⟩ := pr_get g8 hy
      rw [hea, he] at kk
      have kk : ∀ H4, Same H3 H4 → k' (.bl (withinP (freeE (ks.map (·.1)) a) a.told (freeE (ks.map (·.1)) e) e.told)) H4 := kk
      have s13 := s1.trans s3
      refine ⟨T, _, rfl, SqT.of hT, rfl, _, _, rfl, _, _, rfl, rfl, rfl, ?_⟩
      refine ⟨_, rfl, p, CA, dx, fs, _, rfl, s13 _ _ h1, AX.cl, AX.nK, h2, _, rfl, _, rfl, kp, q, r, ks, a, e, rfl, hx.keep s13, oke a (List.mem_of_mem_drop (List.mem_of_getElem? hea)), hy'.keep s13, okf e (List.mem_of_getElem? he), h6.keep s13, nk, fun H4 s4 => ?_⟩
      exact kk H4 s4
    · intro D H3 s3 hD
      refine ⟨D, _, rfl, SqL.of hD, ?_⟩
      have k := k H3 (s1.trans s3)
      rw [ef, ← zip_range (fun a e => withinP (freeE (ks.map (·.1)) a) a.told (freeE (ks.map (·.1)) e) e.told) (n := (xs.drop (es.length - fs2.length)).length) (by rw [List.length_drop, List.length_drop, lx])] at k
      exact k
end
end Kx

set_option maxHeartbeats 8000000
namespace Kx
open PySem L2
/-! the law's small defs; a state after draws -/
structure Dr (H H' : Hp) (p q : Addr) : Prop where
  hp : HandAt H' p q
  kp : Keep H H' p
theorem Dr.refl {H : Hp} {p q : Addr} (h : HandAt H p q) : Dr H H p q := ⟨h, Keep.refl⟩
theorem Dr.same {H H' : Hp} {p q : Addr} (d : Dr H H' p q) : Same (wo p H) (wo p H') := wo_keep d.kp
theorem Dr.trans {H H1 H2 : Hp} {p q : Addr} (d : Dr H H1 p q) (e : Dr H1 H2 p q) : Dr H H2 p q := ⟨e.hp, d.kp.trans e.kp⟩
theorem Dr.draw {H H1 H2 : Hp} {p q : Addr} (d : Dr H H1 p q) (k : Keep H1 H2 p) (h : HandAt H2 p q) : Dr H H2 p q := ⟨h, d.kp.trans k⟩
theorem Dr.free {H H' : Hp} {p q l : Addr} (d : Dr H H' p q) (hl : H' l = none) : H l = none ∧ l ≠ p ∧ l ≠ q := by
  have lp := d.hp.ap hl
  refine ⟨?_, lp, d.hp.aq hl⟩
  cases e : H l with
  | none => rfl
  | some u => exact absurd hl (by rw [d.kp l u e lp]; exact fun z => nomatch z)
theorem Dr.put {H H' : Hp} {p q l : Addr} {o : HO} (d : Dr H H' p q) (h0 : H l = none) (lp : l ≠ p) (lq : l ≠ q) : Dr H (upd H' l o) p q := ⟨d.hp.upd lp lq, keepUpd d.kp h0⟩
theorem Dr.new {H H' : Hp} {p q l : Addr} {o : HO} (d : Dr H H' p q) (hl : H' l = none) : Dr H (upd H' l o) p q := by
  obtain ⟨h0, lp, lq⟩ := d.free hl
  exact d.put h0 lp lq
theorem Dr.newS {H H' : Hp} {p q l : Addr} {o : HO} (d : Dr H H' p q) (hl : H' l = none) : Same H' (upd H' l o) ∧ wo p (upd H' l o) l = some o := ⟨sameUpd (Same.refl _) hl, wo_at upd_same (d.free hl).2.1⟩
theorem Dr.ofS {H H' H2 : Hp} {p q : Addr} (d : Dr H H' p q) (s : Same H' H2) : Dr H H2 p q := by
  refine ⟨?_, fun b o e n => s b o (d.kp b o e n)⟩
  obtain ⟨cs, a, b, c, h1, h2⟩ := d.hp
  exact ⟨cs, a, b, c, s _ _ h1, s _ _ h2⟩
/-- a row of the law's kinds -/
def PairT (H : Hp) (x : V) (r : Str × Int) : Prop := ∃ t, x = .ref t ∧ H t = some (.tup [.str r.1, .int r.2])
theorem PairT.keep {H H' : Hp} {x : V} {r : Str × Int} (h : PairT H x r) (s : Same H H') : PairT H' x r := by
  obtain ⟨t, e, h⟩ := h
  exact ⟨t, e, s _ _ h⟩
structure CusAt (H : Hp) (c : Addr) (ks : List (Str × Int)) : Prop where
  ex : ∃ (b : Addr) (rest xs : List V), H c = some (.lst (.ref b :: rest)) ∧ H b = some (.lst xs) ∧ Paired (PairT H) xs ks
theorem CusAt.keep {H H' : Hp} {c : Addr} {ks : List (Str × Int)} (h : CusAt H c ks) (s : Same H H') : CusAt H' c ks := by
  obtain ⟨b, r, xs, h1, h2, h3⟩ := h.ex
  exact ⟨b, r, xs, s _ _ h1, s _ _ h2, pr_imp h3 fun _ _ q => q.keep s⟩
/-- what deeds are made of -/
structure Mt (H : Hp) (p q c a : Addr) (ks : List (Str × Int)) (ps : List Str) : Prop where
  hp : HandAt H p q
  cu : CusAt (wo p H) c ks
  gk : GoodK ks
  hc : wo p H a = some (.lst (ps.map V.str))
  ne : ps ≠ []
  few : ps.length ≤ 6
  fine : ∀ y ∈ ps, Lb y
theorem Mt.keep {H H' : Hp} {p q c a : Addr} {ks : List (Str × Int)} {ps : List Str} (m : Mt H p q c a ks ps) (d : Dr H H' p q) : Mt H' p q c a ks ps :=
  ⟨d.hp, m.cu.keep d.same, m.gk, d.same _ _ m.hc, m.ne, m.few, m.fine⟩
def arNum (ks : List (Str × Int)) (n : Str) : Int := ((ks.find? fun r => decide (r.1 = n)).map (·.2)).getD 0
def spXArity : Sp := fun vs H Q _ => ∃ (c : Addr) (ks : List (Str × Int)) (n : Str), vs = [.ref c, .str n] ∧ CusAt H c ks ∧ ∀ H', Same H H' → Q (.int (arNum ks n)) H'
def spXTruth : Sp := fun vs H Q _ => ∃ a b : Bool, vs = [.bl a, .bl b] ∧ Q (.bl (a == b)) H
def spXPers : Sp := fun vs H Q _ => vs = [] ∧ ∀ l, H l = none → Q (.ref l) (upd H l (.lst ((["ann", "bob", "cy", "a", "b", "zz"] : List Str).map V.str)))
section
variable {P : Program} {w : World} {K : PySem.W.Frag} {mg : Str → Option Value} {base : Heap}
theorem scXArity : FnScope ["_law_custom_here", "_law_kind", "_law_name", "_law_many"] ["_law_custom_here", "_law_kind"] (defScope sLArity) := ⟨rfl, rfl, rfl, by decide +kernel, rfl, by decide +kernel, by decide +kernel⟩
theorem ok_xarity {f : Addr} {fd : FuncData} (F : Fun K "_law_arity" "_law_arity" sLArity f fd) (m : mg "_law_arity" = some (.ref f)) : HasF P w K mg base "_law_arity" 1 ["_law_custom_here", "_law_kind"] spXArity := by
  refine ⟨f, fd, ?_, m, F.kp, F.binds fun _ _ _ _ _ _ us hl => match us, hl with | [_, _], _ => rfl⟩
  refine F.ok scXArity (fun vs H Q E h => ?_) (fun cdv A outer s H vs Q E hr h => ?_)
  · obtain ⟨a, b, c, rfl, _⟩ := h
    rfl
  · obtain ⟨c, ks, n, rfl, cu, k⟩ := h
    obtain ⟨b, rest, xs, h1, h2, h3⟩ := cu.ex
    refine ⟨_, (pss_cons (ps_for PassesOwn.never rfl (pi_seq (pe_ix ix_list (pv 0) pe_int (fun _ _ => rfl))) (pg_tup rfl (pgs_cons (pg_name (i := 2) scXArity.nd rfl (.inl rfl)) (pgs_cons (pg_name (i := 3) scXArity.nd rfl (.inl rfl)) pgs_nil)))
        (pss_one (ps_if (pt_cmpR op_eq (pv 2) (pv 1) (nomark _)) (pss_one (ps_ret (pv 3))) pss_nil)))
    (pss_one (ps_ret pe_int))), ?_⟩
    refine ⟨_, rfl, c, _, 0, _, rfl, rfl, SqL.of h1, atI0 _ _, b, rfl, for_sq (K := K) (a := b) (xs := xs) (IsSeq.lst h2) (fun i σ H2 => (∃ v2 v3 : Option V, σ = [some (.ref c), some (.str n), v2, v3]) ∧ H2 = H ∧ (ks.take i).find? (fun r => decide (r.1 = n)) = none) ⟨⟨none, none, rfl⟩, rfl, rfl⟩ (fun i σ H2 q => by rw [q.2.1]; exact Same.refl _) ?_ ?_⟩
    · rintro i x σ H2 hi ⟨⟨v2, v3, rfl⟩, rfl, no⟩
      obtain ⟨r, hr', t, rfl, ht⟩ := pr_get h3 hi
      refine ⟨t, _, rfl, SqT.of ht, rfl, _, _, rfl, _, _, rfl, rfl, ?_⟩
      refine ⟨_, rfl, _, rfl, rfl, _, rfl, ?_⟩
      have st : (ks.take (i + 1)).find? (fun r => decide (r.1 = n)) = if r.1 = n then some r else none := by
        rw [take_succ_of hr', List.find?_append, no]
        by_cases e : r.1 = n
        · rw [if_pos e, List.find?_cons_of_pos (by simpa using e)]
          rfl
        · rw [if_neg e, List.find?_cons_of_neg (by simpa using e)]
          rfl
      by_cases e : r.1 = n
      · rw [decide_eq_true (by rw [e])]
        refine iteT ⟨_, rfl, ?_⟩
        rw [if_pos e] at st
        have ea : arNum ks n = r.2 := by
          unfold arNum
          rw [← List.take_append_drop (i + 1) ks, List.find?_append, st]
          rfl
        rw [ea] at k
        exact k _ (Same.refl _)
      · rw [decide_eq_false (fun z => e (by injection z))]
        rw [if_neg e] at st
        exact iteF ⟨⟨_, _, rfl⟩, rfl, st⟩
    · rintro σ H2 ⟨⟨v2, v3, rfl⟩, rfl, no⟩
      rw [Paired.length h3, List.take_length] at no
      have ea : arNum ks n = 0 := by
        unfold arNum
        rw [no]
        rfl
      rw [ea] at k
      exact k _ (Same.refl _)
theorem scXTruth : FnScope ["_law_told", "_law_due"] ["_law_told", "_law_due"] (defScope sLTruth) := ⟨rfl, rfl, rfl, by decide +kernel, rfl, by decide +kernel, by decide +kernel⟩
theorem ok_xtruth {f : Addr} {fd : FuncData} (F : Fun K "_law_truth" "_law_truth" sLTruth f fd) (m : mg "_law_truth" = some (.ref f)) (B : Bm mg) : HasF P w K mg base "_law_truth" 1 ["_law_told", "_law_due"] spXTruth := by
  refine ⟨f, fd, ?_, m, F.kp, F.binds fun _ _ _ _ _ _ us hl => match us, hl with | [_, _], _ => rfl⟩
  refine F.ok scXTruth (fun vs H Q E h => ?_) (fun cdv A outer s H vs Q E hr h => ?_)
  · obtain ⟨a, b, rfl, _⟩ := h
    rfl
  · obtain ⟨a, b, rfl, k⟩ := h
    refine ⟨_, pss_one (ps_ret (pe_and (pe_callB call_isi (by rfl) B.isinstance (by decide +kernel) (pa_cons (pv 0) (pa_cons (pe_bltn (v := .ty "bool") (by rfl) B.bool (by decide +kernel) rfl) pa_nil))) (pe_one (pe_cmpR op_eq (pv 0) (pv 1) (nomark _))))), ?_⟩
    refine ⟨_, rfl, .bl a, _, _, _, _, rfl, .ty _, (Kd.bl (H := H) a).ty, kit_ty (kit_bool (Kd.bl (H := H) a).kits), _, rfl, ?_⟩
    refine iteT ⟨_, rfl, _, rfl, rfl, ?_⟩
    rw [dec_bl]
    exact k
theorem scXPers : FnScope [] [] (defScope sLPersons) := ⟨rfl, rfl, rfl, by decide +kernel, rfl, by decide +kernel, by decide +kernel⟩
theorem ok_xpers {f : Addr} {fd : FuncData} (F : Fun K "_law_persons" "_law_persons" sLPersons f fd) (m : mg "_law_persons" = some (.ref f)) : HasF P w K mg base "_law_persons" 1 [] spXPers := by
  refine ⟨f, fd, ?_, m, F.kp, F.binds fun _ _ _ _ _ _ us hl => match us, hl with | [], _ => rfl⟩
  refine F.ok scXPers (fun vs H Q E h => ?_) (fun cdv A outer s H vs Q E hr h => ?_)
  · rw [h.1]
    rfl
  · obtain ⟨rfl, k⟩ := h
    refine ⟨_, pss_one (ps_ret (pe_lst (pa_cons pe_str (pa_cons pe_str (pa_cons pe_str (pa_cons pe_str (pa_cons pe_str (pa_cons pe_str pa_nil)))))))), ?_⟩
    exact ⟨(by show 6 ≤ sizeLine; decide), fun l hl => k l hl⟩
end
end Kx

set_option maxHeartbeats 8000000
namespace Kx
open PySem L2
/-! drawn deeds and years -/
def spXDeed : Sp := fun vs H Q _ => ∃ (p q c a : Addr) (ks : List (Str × Int)) (ps : List Str), vs = [.ref p, .ref c, .ref a] ∧ Mt H p q c a ks ps ∧ ∀ (t : Addr) (zs : List Str) (H' : Hp), Dr H H' p q → Made ks ps zs → wo p H' t = some (.tup (zs.map V.str)) → Q (.ref t) H'
section
variable {P : Program} {w : World} {K : PySem.W.Frag} {mg : Str → Option Value} {base : Heap}
theorem scXDeed : FnScope ["_law_hand_here", "_law_custom_here", "_law_persons_here", "_law_kind", "_law_deed_here", "_law_k"] ["_law_hand_here", "_law_custom_here", "_law_persons_here"] (defScope sLDeed) := ⟨rfl, rfl, rfl, by decide +kernel, rfl, by decide +kernel, by decide +kernel⟩
theorem ok_xdeed {f : Addr} {fd : FuncData} (F : Fun K "_law_deed" "_law_deed" sLDeed f fd) (m : mg "_law_deed" = some (.ref f)) (T : Bl mg) (B : Bm mg) (O : HasF P w K mg base "_law_one" 3 ["_law_hand_here", "_law_rows"] spOne) : HasF P w K mg base "_law_deed" 4 ["_law_hand_here", "_law_custom_here", "_law_persons_here"] spXDeed := by
  refine ⟨f, fd, ?_, m, F.kp, F.binds fun _ _ _ _ _ _ us hl => match us, hl with | [_, _, _], _ => rfl⟩
  obtain ⟨f3, fd3, O⟩ := O
  refine F.ok scXDeed (fun vs H Q E h => ?_) (fun cdv A outer s H vs Q E hr h => ?_)
  · obtain ⟨a, b, c, d, e, f, rfl, _⟩ := h
    rfl
  · obtain ⟨p, q, c, a, ks, ps, rfl, M, k⟩ := h
    refine ⟨_, (pss_cons (ps_set (i := 3) scXDeed.nd rfl (Or.inl rfl) (pe_call O.G hr (by rfl) O.m O.kp O.b .nil pass0 (pa_cons (pv 0) (pa_cons (pe_ix ix_list (pv 1) pe_int (fun _ _ => rfl)) pa_nil))))
    (pss_cons (ps_set (i := 4) scXDeed.nd rfl (Or.inl rfl) (pe_lst (pa_cons (pe_ix ix_tup (pv 3) pe_int (fun _ _ => rfl)) pa_nil)))
    (C8.pss_cut (ps_for PassesOwn.never rfl (pi_range1 (by rfl) T.range (pa_cons (pe_ix ix_tup (pv 3) pe_int (fun _ _ => rfl)) pa_nil)) (pg_name (i := 5) scXDeed.nd rfl (.inl rfl))
        (pss_one (ps_expr (pe_bm PySem.F.plainAttrs_list PySem.F.slot_list_append PySem.F.type_list_append mt_append (pv 4) (pa_cons (pe_call O.G hr (by rfl) O.m O.kp O.b .nil pass0 (pa_cons (pv 0) (pa_cons (pv 2) pa_nil))) pa_nil)))))
    (pss_one (ps_ret (pe_callTy call_tuple_of (by rfl) B.tuple (by decide +kernel) (pa_cons (pv 4) pa_nil))))))), ?_⟩
    obtain ⟨b, rest, xs, g1, g2, g3⟩ := M.cu.ex
    have gk := M.gk
    have lxs := Paired.length g3
    refine ⟨_, rfl, _, rfl, c, _, 0, _, rfl, rfl, SqL.of (wo_get g1).1, atI0 _ _, p, q, b, xs, rfl, M.hp, (wo_get g2).1, (wo_get g2).2, (by have := gk.lo; omega), (by have := gk.hi; omega), fun x H1 hxm hp1 k1 => ?_⟩
    have d1 : Dr H H1 p q := ⟨hp1, k1⟩
    obtain ⟨i, hi⟩ := List.mem_iff_getElem?.mp hxm
    obtain ⟨r, hq, t, rfl, ht⟩ := pr_get g3 hi
    have mr : r ∈ ks := List.mem_of_getElem? hq
    obtain ⟨lab, _, a0, a2⟩ := gk.each r mr
    have ht1 := d1.same _ _ ht
    refine ⟨_, rfl, t, _, 0, .str r.1, rfl, rfl, SqT.of (wo_get ht1).1, rfl, (by show 1 ≤ sizeLine; decide), fun l hl => ?_⟩
    obtain ⟨l0, lp, lq⟩ := d1.free hl
    have d2 : Dr H (upd H1 l (.lst [.str r.1])) p q := d1.new hl
    refine ⟨fun σ H2 => ∃ zs : List Str, σ[4]? = some (some (.ref l)) ∧ Made ks ps zs ∧ Dr H H2 p q ∧ H2 l = some (.lst (zs.map V.str)), ?_, ?_⟩
    · refine ⟨_, rfl, t, _, 1, .int r.2, rfl, rfl, SqT.of (wo_get (d2.same _ _ ht)).1, rfl, _, rfl, by omega, by omega, for_range (n := r.2.toNat) (fun j σ H2 => ∃ (qs : List Str) (v : Option V), σ = [some (.ref p), some (.ref c), some (.ref a), some (.ref t), some (.ref l), v] ∧ qs.length = j ∧ (∀ z ∈ qs, z ∈ ps) ∧ Dr H H2 p q ∧ H2 l = some (.lst ((r.1 :: qs).map V.str)))
        ⟨[], none, rfl, rfl, fun z hz => (nomatch hz), d2, upd_same⟩ ?_ ?_⟩
      · rintro j σ H2 hj ⟨qs, v, rfl, ql, qm, d, hl2⟩
        have M2 := M.keep d
        refine ⟨_, rfl, .inl ⟨rfl, _, SqL.of hl2⟩, _, rfl, _, rfl, p, q, a, _, rfl, d.hp, (wo_get M2.hc).1, (wo_get M2.hc).2, (by rw [List.length_map]; exact List.length_pos_iff.mpr M.ne), (by rw [List.length_map]; have := M.few; omega), fun x H3 hx3 hp3 k3 => ?_⟩
        obtain ⟨y, hy, rfl⟩ := List.mem_map.mp hx3
        have hl3 := k3 _ _ hl2 lp
        have d3 := d.draw k3 hp3
        refine ⟨l, _, _, rfl, rfl, hl3, small1000 (by rw [List.length_map, List.length_cons]; omega), qs ++ [y], _, rfl, by simp [ql], fun z hz => (List.mem_append.mp hz).elim (qm z) fun e => by rw [List.mem_singleton.mp e]; exact hy, d3.put l0 lp lq, ?_⟩
        rw [upd_same]
        simp
      · rintro σ H2 ⟨qs, v, rfl, ql, qm, d, hl2⟩
        exact ⟨r.1 :: qs, rfl, ⟨r, mr, qs, rfl, by omega, qm⟩, d, hl2⟩
    rintro σ H2 ⟨zs, e4, md, d, hl2⟩
    refine ⟨_, e4, l, _, rfl, .inl ⟨SqL.of hl2, fun u hu => ?_⟩⟩
    exact k u zs _ (d.new hu) md (d.newS hu).2
end
end Kx

set_option maxHeartbeats 8000000
namespace Kx
open PySem L2
/-! drawn years -/
/-- a year of the law: a list of tuples -/
def Yr (W : Hp) (x : V) (y : List Deed) : Prop := ∃ b xs, x = .ref b ∧ W b = some (.lst xs) ∧ Paired (Ss .tup W) xs y
theorem Yr.keep {H H' : Hp} {x : V} {y : List Deed} (h : Yr H x y) (s : Same H H') : Yr H' x y := by
  obtain ⟨b, xs, e, h1, h2⟩ := h
  exact ⟨b, xs, e, s _ _ h1, pr_imp h2 fun _ _ q => q.keep s⟩
theorem hid_new {a p D : Addr} {H : Hp} {o : HO} (hD : H D = none) : Same (hid a p H) (wo D (hid a p (upd H D o))) := fun c u e => by
  obtain ⟨e1, n1, n2⟩ := hid_get e
  have cD := ne_of_none e1 hD
  rw [wo_ne cD]
  exact hid_at (by rw [upd_ne cD]; exact e1) n1 n2
/-- a list under way at b: new since H -/
structure Und (H H' : Hp) (p q b : Addr) (xs : List V) : Prop where
  d : Dr H H' p q
  b0 : H b = none
  bp : b ≠ p
  bq : b ≠ q
  at_ : H' b = some (.lst xs)
theorem Und.start {H H' : Hp} {p q b : Addr} {xs : List V} (d : Dr H H' p q) (hb : H' b = none) : Und H (upd H' b (.lst xs)) p q b xs := by
  obtain ⟨h0, bp, bq⟩ := d.free hb
  exact ⟨d.put h0 bp bq, h0, bp, bq, upd_same⟩
theorem Und.draw {H H1 H2 : Hp} {p q b : Addr} {xs : List V} (u : Und H H1 p q b xs) (k : Keep H1 H2 p) (h : HandAt H2 p q) : Und H H2 p q b xs := ⟨u.d.draw k h, u.b0, u.bp, u.bq, k _ _ u.at_ u.bp⟩
theorem Und.dr {H H1 H2 : Hp} {p q b : Addr} {xs : List V} (u : Und H H1 p q b xs) (d : Dr H1 H2 p q) : Und H H2 p q b xs := u.draw d.kp d.hp
theorem Und.kh {H H1 H2 : Hp} {p q b : Addr} {xs : List V} (_ : Und H H1 p q b xs) (d : Dr H1 H2 p q) : Same (hid b p H1) (hid b p H2) := hid_keep d.kp
theorem Und.set {H H1 : Hp} {p q b : Addr} {xs ys : List V} (u : Und H H1 p q b xs) : Und H (upd H1 b (.lst ys)) p q b ys := ⟨u.d.put u.b0 u.bp u.bq, u.b0, u.bp, u.bq, upd_same⟩
theorem Und.new {H H1 : Hp} {p q b l : Addr} {o : HO} {xs : List V} (u : Und H H1 p q b xs) (hl : H1 l = none) : Und H (upd H1 l o) p q b xs ∧ l ≠ b ∧ l ≠ p ∧ hid b p (upd H1 l o) l = some o ∧ Same (hid b p H1) (hid b p (upd H1 l o)) := by
  have lb : l ≠ b := (ne_of_none u.at_ hl).symm
  have lp := (u.d.free hl).2.1
  exact ⟨⟨u.d.new hl, u.b0, u.bp, u.bq, by rw [upd_ne lb.symm]; exact u.at_⟩, lb, lp, hid_at upd_same lb lp, hid_keep (H := H1) (H' := upd H1 l o) fun c o e _ => by rw [upd_ne (ne_of_none e hl)]; exact e⟩
theorem Und.out {H H1 : Hp} {p q b c : Addr} {o : HO} {xs : List V} (u : Und H H1 p q b xs) (h : wo p H c = some o) : hid b p H1 c = some o := by
  obtain ⟨h, n⟩ := wo_get h
  exact hid_at (u.d.kp _ _ h n) (ne_of_none h u.b0) n
theorem Und.outS {H H1 : Hp} {p q b : Addr} {xs : List V} (u : Und H H1 p q b xs) : Same (wo p H) (hid b p H1) := fun _ _ h => u.out h
def spXYears : Sp := fun vs H Q _ => ∃ (p q c a : Addr) (ks : List (Str × Int)) (ps : List Str), vs = [.ref p, .ref c, .ref a, .int 3, .int 3] ∧ Mt H p q c a ks ps ∧ ∀ (b : Addr) (xs : List V) (ys : List (List Deed)) (H' : Hp), Und H H' p q b xs → Paired (Yr (hid b p H')) xs ys → ys.length ≤ 3 → (∀ y ∈ ys, y.length ≤ 3 ∧ ∀ d ∈ y, Made ks ps d) → Q (.ref b) H'
section
variable {P : Program} {w : World} {K : PySem.W.Frag} {mg : Str → Option Value} {base : Heap}
abbrev nXYears : List Str := ["_law_hand_here", "_law_custom_here", "_law_persons_here", "_law_most", "_law_deeds", "_law_years_here", "_law_k", "_law_j"]
theorem scXYears : FnScope nXYears ["_law_hand_here", "_law_custom_here", "_law_persons_here", "_law_most", "_law_deeds"] (defScope sLYears) := ⟨rfl, rfl, rfl, by decide +kernel, rfl, by decide +kernel, by decide +kernel⟩
theorem ok_xyears {f : Addr} {fd : FuncData} (F : Fun K "_law_years" "_law_years" sLYears f fd) (m : mg "_law_years" = some (.ref f)) (T : Bl mg) (D : HasF P w K mg base "_law_draw" 2 ["_law_hand_here", "_law_many"] spDraw) (G : HasF P w K mg base "_law_deed" 4 ["_law_hand_here", "_law_custom_here", "_law_persons_here"] spXDeed) :
    HasF P w K mg base "_law_years" 5 ["_law_hand_here", "_law_custom_here", "_law_persons_here", "_law_most", "_law_deeds"] spXYears := by
  refine ⟨f, fd, ?_, m, F.kp, F.binds fun _ _ _ _ _ _ us hl => match us, hl with | [_, _, _, _, _], _ => rfl⟩
  obtain ⟨f1, fd1, D⟩ := D; obtain ⟨f2, fd2, G⟩ := G
  refine F.ok scXYears (fun vs H Q E h => ?_) (fun cdv A outer s H vs Q E hr h => ?_)
  · obtain ⟨a, b, c, d, e, f, rfl, _⟩ := h
    rfl
  · obtain ⟨p, q, c, a, ks, ps, rfl, M, k⟩ := h
    have hr2 : Room 2 _ := hr.mono (by decide)
    refine ⟨_, (pss_cons (ps_set (i := 5) scXYears.nd rfl (Or.inl rfl) (pe_lst pa_nil))
    (C8.pss_cut (ps_for PassesOwn.never rfl (pi_range1 (by rfl) T.range (pa_cons (pe_call D.G hr2 (by rfl) D.m D.kp D.b .nil pass0 (pa_cons (pv 0) (pa_cons (pe_op op_add (pv 3) pe_int) pa_nil))) pa_nil)) (pg_name (i := 6) scXYears.nd rfl (.inl rfl))
        (pss_one (ps_expr (pe_bm PySem.F.plainAttrs_list PySem.F.slot_list_append PySem.F.type_list_append mt_append (pv 5) (pa_cons (pe_lc (own := [("_law_j", 7)]) (g := gName 7) (tt := tYes) (by rfl) scXYears.nd (pi_range1 (by rfl) T.range (pa_cons (pe_call D.G hr2 (by rfl) D.m D.kp D.b .nil pass0 (pa_cons (pv 0) (pa_cons (pe_op op_add (pv 4) pe_int) pa_nil))) pa_nil)) (blkOk_by (own := [("_law_j", 7)]) (N := nXYears) (sc := defScope sLYears) (by decide +kernel))
          (fun _ _ _ _ _ => pg_name (i := 7) scXYears.nd rfl (Or.inl rfl)) (fun _ _ _ _ _ => pts_nil) (fun _ _ _ _ _ => (pe_call G.G hr (by rfl) G.m G.kp G.b .nil pass0 (pa_cons (pv 0) (pa_cons (pv 1) (pa_cons (pv 2) pa_nil)))))) pa_nil)))))
    (pss_one (ps_ret (pv 5))))), ?_⟩
    refine ⟨Nat.zero_le _, fun b hb => ?_⟩
    have u0 : Und H (upd H b (.lst [])) p q b [] := Und.start (Dr.refl M.hp) hb
    refine ⟨fun σ H2 => ∃ (xs : List V) (ys : List (List Deed)), σ[5]? = some (some (.ref b)) ∧ Und H H2 p q b xs ∧ Paired (Yr (hid b p H2)) xs ys ∧ ys.length ≤ 3 ∧ ∀ y ∈ ys, y.length ≤ 3 ∧ ∀ d ∈ y, Made ks ps d, ?_, ?_⟩
    · refine ⟨_, rfl, _, rfl, _, _, rfl, rfl, p, q, 4, rfl, u0.d.hp, by decide, by decide, fun z H1 z0 z1 hp1 k1 => ?_⟩
      have u1 := u0.draw k1 hp1
      refine ⟨_, rfl, by omega, by omega, for_range (n := z.toNat) (fun i σ H2 => ∃ (xs : List V) (ys : List (List Deed)) (v6 v7 : Option V), σ = [some (.ref p), some (.ref c), some (.ref a), some (.int 3), some (.int 3), some (.ref b), v6, v7] ∧ Und H H2 p q b xs ∧ Paired (Yr (hid b p H2)) xs ys ∧ ys.length = i ∧ ∀ y ∈ ys, y.length ≤ 3 ∧ ∀ d ∈ y, Made ks ps d)
        ⟨[], [], none, none, rfl, u1, .nil, rfl, fun y hy => nomatch hy⟩ ?_ ?_⟩
      · rintro i σ H2 hi ⟨xs, ys, v6, v7, rfl, u2, px, yl, gy⟩
        refine ⟨_, rfl, .inl ⟨rfl, _, SqL.of u2.at_⟩, _, rfl, _, rfl, _, _, rfl, rfl, p, q, 4, rfl, u2.d.hp, by decide, by decide, fun z2 H3 z20 z21 hp3 k3 => ?_⟩
        have d23 : Dr H2 H3 p q := ⟨hp3, k3⟩
        have u3 := u2.dr d23
        have px3 : Paired (Yr (hid b p H3)) xs ys := pr_imp px fun _ _ h => h.keep (u2.kh d23)
        refine ⟨_, rfl, by omega, by omega, fun L hL => ?_⟩
        obtain ⟨u4, Lb', Lp, _, s4⟩ := u3.new (o := .lst []) hL
        have L0 := (u3.d.free hL).1
        have Lq := (u3.d.free hL).2.2
        refine lc_range (lo := 0) (n := z2.toNat) (fun j Hj => ∃ (acc : List V) (ds : List Deed), Hj L = some (.lst acc) ∧ Paired (Ss .tup (wo L (hid b p Hj))) acc ds ∧ ds.length = j ∧ (∀ d ∈ ds, Made ks ps d) ∧ Und H Hj p q b xs ∧ Paired (Yr (wo L (hid b p Hj))) xs ys) ?_ ?_ ?_
        · exact ⟨[], [], upd_same, .nil, rfl, fun d hd => (nomatch hd), u4, pr_imp px3 fun _ _ h => h.keep (hid_new hL)⟩
        · rintro j Hj hj ⟨acc, ds, hacc, pa, dl, md, uj, pxj⟩
          refine ⟨rfl, ?_⟩
          refine ⟨_, rfl, _, rfl, _, rfl, p, q, c, a, ks, ps, rfl, M.keep uj.d, fun t zs H5 d5 mz ht => ?_⟩
          have u5 := uj.dr d5
          have hL5 : H5 L = some (.lst acc) := d5.kp L _ hacc Lp
          obtain ⟨ht1, tp⟩ := wo_get ht
          have tL : t ≠ L := fun e => by rw [e, hL5] at ht1; cases ht1
          have tb : t ≠ b := fun e => by rw [e, u5.at_] at ht1; cases ht1
          have sw : Same (wo L (hid b p Hj)) (wo L (hid b p (upd H5 L (.lst (acc ++ [.ref t]))))) := (wo_mono (uj.kh d5)).trans wo_put
          refine ⟨acc, hL5, small1000 (by rw [Paired.length pa]; omega), acc ++ [.ref t], ds ++ [zs], upd_same, pr_app (pr_imp pa fun _ _ h => h.keep sw) (.cons ⟨t, rfl, ?_⟩ .nil), by simp [dl], fun e he => ?_, ⟨u5.d.put L0 Lp Lq, u5.b0, u5.bp, u5.bq, by rw [upd_ne Lb'.symm]; exact u5.at_⟩, pr_imp pxj fun _ _ h => h.keep sw⟩
          · rw [wo_ne tL]
            exact hid_at (by rw [upd_ne tL]; exact ht1) tb tp
          · rcases List.mem_append.mp he with h | h
            · exact md e h
            · rw [List.mem_singleton.mp h]
              exact mz
        · rintro Hj ⟨acc, ds, hacc, pa, dl, md, uj, pxj⟩
          refine ⟨b, _, _, rfl, rfl, uj.at_, small1000 (by rw [Paired.length px]; omega), xs ++ [.ref L], ys ++ [ds], _, _, rfl, uj.set, pr_app (pr_imp pxj fun _ _ h => (h.keep wo_same).keep hid_b) (.cons ⟨L, acc, rfl, hid_at (by rw [upd_ne Lb']; exact hacc) Lb' Lp, pr_imp pa fun _ _ h => (h.keep wo_same).keep hid_b⟩ .nil), by simp [yl], fun y hy => ?_⟩
          rcases List.mem_append.mp hy with h | h
          · exact gy y h
          · rw [List.mem_singleton.mp h]
            exact ⟨by omega, md⟩
      · rintro σ H2 ⟨xs, ys, v6, v7, rfl, u2, px, yl, gy⟩
        exact ⟨xs, ys, rfl, u2, px, by omega, gy⟩
    rintro σ H2 ⟨xs, ys, e5, u2, px, yl, gy⟩
    exact ⟨_, e5, k b xs ys H2 u2 px yl gy⟩
end
end Kx

set_option maxHeartbeats 8000000
namespace Kx
open PySem L2
/-! some of the rows; names of kinds -/
theorem erase_perm {α : Type} {ls : List α} {k : Nat} {y : α} (h : ls[k]? = some y) : ls.Perm (y :: ls.eraseIdx k) := by
  obtain ⟨lt, e⟩ := List.getElem?_eq_some_iff.mp h
  rw [List.eraseIdx_eq_take_drop_succ]
  have : ls = ls.take k ++ y :: ls.drop (k + 1) := by
    rw [← e, ← List.drop_eq_getElem_cons lt, List.take_append_drop]
  exact (List.Perm.of_eq this).trans List.perm_middle
theorem erase_map {α β : Type} (f : α → β) (ls : List α) (k : Nat) : (ls.map f).eraseIdx k = (ls.eraseIdx k).map f := by
  rw [List.eraseIdx_eq_take_drop_succ, List.eraseIdx_eq_take_drop_succ, List.map_append, List.map_take, List.map_drop]
theorem seqIx {i : Int} {n : Nat} (h0 : 0 ≤ i) (h1 : i < n) : seqIndex? i n = some i.toNat := by
  unfold seqIndex?
  simp
  omega
def spXSome : Sp := fun vs H Q _ => ∃ (p q r : Addr) (zs : List Str) (m : Int), vs = [.ref p, .ref r, .int m] ∧ HandAt H p q ∧ wo p H r = some (.lst (zs.map V.str)) ∧ zs.Nodup ∧ zs.length ≤ 1000 ∧ 0 ≤ m ∧ m ≤ zs.length ∧
  ∀ (b : Addr) (fs : List Str) (H' : Hp), H b = none → Dr H H' p q → wo p H' b = some (.lst (fs.map V.str)) → fs.Nodup → (∀ z ∈ fs, z ∈ zs) → (fs.length : Int) = m → Q (.ref b) H'
abbrev nXSome : List Str := ["_law_hand_here", "_law_rows", "_law_many", "_law_left", "_law_found", "_law_k"]
section
variable {P : Program} {w : World} {K : PySem.W.Frag} {mg : Str → Option Value} {base : Heap}
theorem scXSome : FnScope nXSome ["_law_hand_here", "_law_rows", "_law_many"] (defScope sLSome) := ⟨rfl, rfl, rfl, by decide +kernel, rfl, by decide +kernel, by decide +kernel⟩
theorem ok_xsome {f : Addr} {fd : FuncData} (F : Fun K "_law_some" "_law_some" sLSome f fd) (m : mg "_law_some" = some (.ref f)) (T : Bl mg) (B : Bm mg) (D : HasF P w K mg base "_law_draw" 2 ["_law_hand_here", "_law_many"] spDraw) : HasF P w K mg base "_law_some" 3 ["_law_hand_here", "_law_rows", "_law_many"] spXSome := by
  refine ⟨f, fd, ?_, m, F.kp, F.binds fun _ _ _ _ _ _ us hl => match us, hl with | [_, _, _], _ => rfl⟩
  obtain ⟨f1, fd1, D⟩ := D
  refine F.ok scXSome (fun vs H Q E h => ?_) (fun cdv A outer s H vs Q E hr h => ?_)
  · obtain ⟨a, b, c, d, e, rfl, _⟩ := h
    rfl
  · obtain ⟨p, q, r, zs, m, rfl, hp, hz, nd, few, m0, m1, k⟩ := h
    refine ⟨_, (pss_cons (ps_set (i := 3) scXSome.nd rfl (Or.inl rfl) (pe_callTy call_list_of (by rfl) B.list (by decide +kernel) (pa_cons (pv 1) pa_nil)))
    (pss_cons (ps_set (i := 4) scXSome.nd rfl (Or.inl rfl) (pe_lst pa_nil))
    (C8.pss_cut (ps_for PassesOwn.never rfl (pi_range1 (by rfl) T.range (pa_cons (pv 2) pa_nil)) (pg_name (i := 5) scXSome.nd rfl (.inl rfl))
        (pss_one (ps_expr (pe_bm PySem.F.plainAttrs_list PySem.F.slot_list_append PySem.F.type_list_append mt_append (pv 4) (pa_cons (pe_bm PySem.F.plainAttrs_list PySem.F.slot_list_pop PySem.F.type_list_pop mt_popAt (pv 3) (pa_cons (pe_call D.G hr (by rfl) D.m D.kp D.b .nil pass0 (pa_cons (pv 0) (pa_cons (pe_callB call_len_seq (by rfl) T.len PySem.boot_len (pa_cons (pv 3) pa_nil)) pa_nil))) pa_nil)) pa_nil)))))
    (pss_one (ps_ret (pv 4)))))), ?_⟩
    refine ⟨_, rfl, r, _, rfl, .inl (SqL.of (wo_get hz).1), fun l hl => ?_⟩
    have u0 : Und H (upd H l (.lst (zs.map V.str))) p q l _ := Und.start (Dr.refl hp) hl
    refine ⟨Nat.zero_le _, fun b hb => ?_⟩
    obtain ⟨u1, bl, bp, _, _⟩ := u0.new (o := .lst []) hb
    have b0 := (u0.d.free hb).1
    have bq := (u0.d.free hb).2.2
    refine ⟨fun σ H2 => ∃ fs ls : List Str, σ[4]? = some (some (.ref b)) ∧ Und H H2 p q l (ls.map V.str) ∧ H2 b = some (.lst (fs.map V.str)) ∧ (fs ++ ls).Nodup ∧ (∀ z ∈ fs ++ ls, z ∈ zs) ∧ (fs.length : Int) = m, ?_, ?_⟩
    · refine ⟨_, rfl, _, rfl, by omega, by have : zs.length < 2 ^ 62 := Nat.lt_of_le_of_lt few (by decide); omega, for_range (n := m.toNat) (fun i σ H2 => ∃ (fs ls : List Str) (v : Option V), σ = [some (.ref p), some (.ref r), some (.int m), some (.ref l), some (.ref b), v] ∧ Und H H2 p q l (ls.map V.str) ∧ H2 b = some (.lst (fs.map V.str)) ∧ (fs ++ ls).Nodup ∧ (∀ z ∈ fs ++ ls, z ∈ zs) ∧ fs.length = i ∧ ls.length + i = zs.length)
        ⟨[], zs, none, rfl, u1, upd_same, by simpa using nd, fun z hz => by simpa using hz, rfl, by simp⟩ ?_ ?_⟩
      · rintro i σ H2 hi ⟨fs, ls, v, rfl, u2, hb2, nd2, sub2, fl, ll⟩
        have lpos : 0 < ls.length := by omega
        have lbig : ls.length < 2 ^ 200 := Nat.lt_of_le_of_lt (show ls.length ≤ 1000 by omega) (by decide)
        refine ⟨_, rfl, .inl ⟨rfl, _, SqL.of hb2⟩, _, rfl, .inl ⟨rfl, _, SqL.of u2.at_⟩, _, rfl, _, rfl, l, _, rfl, .inl (SqL.of u2.at_), p, q, _, rfl, u2.d.hp, by rw [List.length_map]; omega, by rw [List.length_map, Int.natAbs_natCast]; exact lbig, fun z H3 z0 z1 hp3 k3 => ?_⟩
        rw [List.length_map] at z1
        have u3 := u2.draw k3 hp3
        have hb3 := k3 _ _ hb2 bp
        have lt : z.toNat < ls.length := by omega
        have hy : ls[z.toNat]? = some ls[z.toNat] := List.getElem?_eq_getElem lt
        have pm := erase_perm hy
        have pm2 : (fs ++ ls).Perm ((fs ++ [ls[z.toNat]]) ++ ls.eraseIdx z.toNat) := by
          rw [List.append_assoc]
          exact List.Perm.append_left fs pm
        refine ⟨l, _, z, z.toNat, .str ls[z.toNat], rfl, rfl, u3.at_, by omega, by have h1 : ls.length < 2 ^ 62 := Nat.lt_of_le_of_lt (show ls.length ≤ 1000 by omega) (by decide); omega, seqIx z0 (by rw [List.length_map]; exact z1), by rw [List.getElem?_map, hy]; rfl, ?_⟩
        refine ⟨b, _, _, rfl, rfl, by rw [upd_ne bl]; exact hb3, small1000 (by rw [List.length_map]; omega), fs ++ [ls[z.toNat]], ls.eraseIdx z.toNat, _, rfl, ?_, ?_, (pm2.nodup_iff).mp nd2, fun y hy => sub2 y (pm2.mem_iff.mpr hy), by simp [fl], ?_⟩
        · have u4 : Und H (upd H3 l (.lst ((ls.map V.str).eraseIdx z.toNat))) p q l _ := u3.set
          refine ⟨u4.d.put b0 bp bq, u4.b0, u4.bp, u4.bq, ?_⟩
          rw [upd_ne bl.symm, u4.at_, erase_map]
        · rw [upd_same, List.map_append]
          rfl
        · have := pm.length_eq
          rw [List.length_cons] at this
          omega
      · rintro σ H2 ⟨fs, ls, v, rfl, u2, hb2, nd2, sub2, fl, ll⟩
        exact ⟨fs, ls, rfl, u2, hb2, nd2, sub2, by omega⟩
    rintro σ H2 ⟨fs, ls, e4, u2, hb2, nd2, sub2, fl⟩
    exact ⟨_, e4, k b fs H2 b0 u2.d (wo_at hb2 bp) (List.nodup_append.mp nd2).1 (fun z hz => sub2 z (List.mem_append_left _ hz)) fl⟩
end
end Kx

set_option maxHeartbeats 8000000
namespace Kx
open PySem L2
/-! names of kinds -/
def spXNames : Sp := fun vs H Q _ => ∃ (p q c : Addr) (ks : List (Str × Int)), vs = [.ref p, .ref c] ∧ HandAt H p q ∧ CusAt (wo p H) c ks ∧ GoodK ks ∧
  ∀ (b : Addr) (fs : List Str) (H' : Hp), H b = none → Dr H H' p q → wo p H' b = some (.lst (fs.map V.str)) → fs.Nodup → (∀ z ∈ fs, z ∈ ks.map (·.1)) → Q (.ref b) H'
abbrev nXNames : List Str := ["_law_hand_here", "_law_custom_here", "_law_names_here", "_law_name", "_law_many"]
section
variable {P : Program} {w : World} {K : PySem.W.Frag} {mg : Str → Option Value} {base : Heap}
theorem scXNames : FnScope nXNames ["_law_hand_here", "_law_custom_here"] (defScope sLNames) := ⟨rfl, rfl, rfl, by decide +kernel, rfl, by decide +kernel, by decide +kernel⟩
theorem ok_xnames {f : Addr} {fd : FuncData} (F : Fun K "_law_names" "_law_names" sLNames f fd) (m : mg "_law_names" = some (.ref f)) (T : Bl mg) (D : HasF P w K mg base "_law_draw" 2 ["_law_hand_here", "_law_many"] spDraw) (S : HasF P w K mg base "_law_some" 3 ["_law_hand_here", "_law_rows", "_law_many"] spXSome) : HasF P w K mg base "_law_names" 4 ["_law_hand_here", "_law_custom_here"] spXNames := by
  refine ⟨f, fd, ?_, m, F.kp, F.binds fun _ _ _ _ _ _ us hl => match us, hl with | [_, _], _ => rfl⟩
  obtain ⟨f1, fd1, D⟩ := D; obtain ⟨f2, fd2, S⟩ := S
  refine F.ok scXNames (fun vs H Q E h => ?_) (fun cdv A outer s H vs Q E hr h => ?_)
  · obtain ⟨a, b, c, d, rfl, _⟩ := h
    rfl
  · obtain ⟨p, q, c, ks, rfl, hp, cu, gk, k⟩ := h
    have hr2 : Room 2 _ := hr.mono (by decide)
    obtain ⟨b, rest, xs, h1, h2, h3⟩ := cu.ex
    have lx := Paired.length h3
    refine ⟨_, (C8.pss_cut (ps_setLc (i := 2) (own := [("_law_name", 3), ("_law_many", 4)]) (g := gTup K 2 (gCons (gName 3) (gCons (gName 4) gNil))) (tt := tYes) (te := tVar 3) (by rfl) scXNames.nd rfl rfl (sw_true rfl rfl rfl (by decide +kernel)) (pi_seq (pe_ix ix_list (pv 1) pe_int (fun _ _ => rfl))) (blkOk_by (own := [("_law_name", 3), ("_law_many", 4)]) (N := nXNames) (sc := defScope sLNames) (by decide +kernel))
        (fun _ _ _ _ _ => pg_tup rfl (pgs_cons (pg_name (i := 3) scXNames.nd rfl (.inl rfl)) (pgs_cons (pg_name (i := 4) scXNames.nd rfl (.inl rfl)) pgs_nil))) (fun _ _ _ _ _ => pts_nil) (fun _ _ _ _ _ => (pv 3)))
    (pss_one (ps_ret (pe_call S.G hr (by rfl) S.m S.kp S.b .nil pass0 (pa_cons (pv 0) (pa_cons (pv 2) (pa_cons (pe_call D.G hr2 (by rfl) D.m D.kp D.b .nil pass0 (pa_cons (pv 0) (pa_cons (pe_op op_add (pe_callB call_len_seq (by rfl) T.len PySem.boot_len (pa_cons (pv 2) pa_nil)) pe_int) pa_nil))) pa_nil))))))), ?_⟩
    refine ⟨fun σ H1 => ∃ l : Addr, σ = [some (.ref p), some (.ref c), some (.ref l), none, none] ∧ Same H H1 ∧ H1 l = some (.lst ((ks.map (·.1)).map V.str)) ∧ H l = none, ?_, ?_⟩
    · refine ⟨_, rfl, c, _, 0, _, rfl, rfl, SqL.of (wo_get h1).1, atI0 _ _, b, rfl, lc_sq (IsSeq.lst (wo_get h2).1) (Same.refl _) fun L hL => ⟨fun i H3 => Same H H3 ∧ H3 L = some (.lst (((ks.take i).map (·.1)).map V.str)), ⟨sameUpd (Same.refl _) hL, upd_same⟩, fun i H3 z => z.1, ?_, ?_⟩⟩
      · rintro i x H3 hi ⟨s3, hd⟩
        obtain ⟨r, hr', t, rfl, ht⟩ := pr_get h3 hi
        have lt := (List.getElem?_eq_some_iff.mp hr').1
        have := gk.hi
        refine ⟨t, _, rfl, SqT.of (s3 _ _ (wo_get ht).1), rfl, _, _, rfl, _, _, rfl, rfl, rfl, ?_⟩
        unfold tYes
        dsimp only
        rw [if_pos rfl]
        refine ⟨_, rfl, _, hd, small1000 (by rw [List.length_map, List.length_map, List.length_take]; omega), woD hL s3 (Same.refl _), ?_⟩
        rw [upd_same, take_succ_of hr', List.map_append, List.map_append]
        rfl
      · rintro H3 ⟨s3, hd⟩
        rw [lx, List.take_length] at hd
        exact ⟨L, rfl, s3, hd, hL⟩
    rintro σ H1 ⟨l, rfl, s1, hl, l0⟩
    have d1 : Dr H H1 p q := (Dr.refl hp).ofS s1
    have lp : l ≠ p := hp.ap l0
    have := gk.hi
    refine ⟨_, rfl, _, rfl, _, rfl, _, rfl, l, _, rfl, .inl (SqL.of hl), _, _, rfl, rfl, p, q, _, rfl, d1.hp, by rw [List.length_map, List.length_map]; omega, by rw [List.length_map, List.length_map]; exact Nat.lt_of_le_of_lt (show ((ks.length : Int) + 1).natAbs ≤ 7 by omega) (by decide), fun z H2 z0 z1 hp2 k2 => ?_⟩
    rw [List.length_map, List.length_map] at z1
    have d2 := d1.draw k2 hp2
    refine ⟨p, q, l, ks.map (·.1), z, rfl, hp2, wo_at (k2 _ _ hl lp) lp, gk.nd, by rw [List.length_map]; omega, z0, by rw [List.length_map]; omega, fun b' fs H' hb0 d' hb nd sub fl => ?_⟩
    exact k b' fs H' (d2.free hb0).1 (d2.trans d') hb nd sub
end
end Kx

set_option maxHeartbeats 8000000
namespace Kx
open PySem L2
/-! drawn entries -/
def wordE : Ew → Str
  | .known => "known"
  | .without => "without"
  | .unknown => "unknown"
  | .noted => "noted"
  | .holding => "holding"
/-- an entry as the law tells it -/
def EntA (W : Hp) (x : V) (e : En) : Prop := ∃ (a n d : Addr) (xs : List V), x = .ref a ∧ W a = some (.lst [.str (wordE e.w), .ref n, .ref d]) ∧ W n = some (.lst (e.names.map V.str)) ∧ W d = some (.lst xs) ∧ Paired (Ss .tup W) xs e.told
theorem EntA.keep {H H' : Hp} {x : V} {e : En} (h : EntA H x e) (s : Same H H') : EntA H' x e := by
  obtain ⟨a, n, d, xs, e1, h1, h2, h3, h4⟩ := h
  exact ⟨a, n, d, xs, e1, s _ _ h1, s _ _ h2, s _ _ h3, pr_imp h4 fun _ _ q => q.keep s⟩
theorem Ss.hidL {H : Hp} {p L : Addr} {x : V} {z : List Str} {ys : List V} (h : Ss .tup (wo p H) x z) (hl : H L = some (.lst ys)) : Ss .tup (hid L p H) x z := by
  obtain ⟨a, e, h⟩ := h
  exact ⟨a, e, wo_at h fun y => by rw [y] at h; rw [(wo_get h).1] at hl; cases hl⟩
structure GoodEn (ks : List (Str × Int)) (ps : List Str) (e : En) : Prop where
  fit : EnFit ks ps e
  dis : e.names.Nodup
  few : e.told.length ≤ 3
  none : e.w = .unknown ∨ e.w = .without → e.told = []
def spXEntry : Sp := fun vs H Q _ => ∃ (p q c a : Addr) (ks : List (Str × Int)) (ps : List Str) (m : Nat), vs = [.ref p, .ref c, .ref a, .int (m : Nat)] ∧ m ≤ 3 ∧ Mt H p q c a ks ps ∧ ∀ (r : Addr) (e : En) (H' : Hp), Dr H H' p q → EntA (wo p H') (.ref r) e → (∀ L ys, H L = some (.lst ys) → L ≠ p → EntA (hid L p H') (.ref r) e) → GoodEn ks ps e → Q (.ref r) H'
theorem word_wn (k : Ew) : inV (.str (wordE k)) [.str "without", .str "noted"] = decide (k = .without ∨ k = .noted) := by cases k <;> decide +kernel
theorem word_knh (k : Ew) : inV (.str (wordE k)) [.str "known", .str "noted", .str "holding"] = decide (k = .known ∨ k = .noted ∨ k = .holding) := by cases k <;> decide +kernel
theorem word_n (k : Ew) : decide (V.str (wordE k) = .str "noted") = decide (k = .noted) := by cases k <;> decide +kernel
abbrev nXEntry : List Str := ["_law_hand_here", "_law_custom_here", "_law_persons_here", "_law_most", "_law_word", "_law_names_here", "_law_deeds", "_law_k", "_law_deed_here"]
section
variable {P : Program} {w : World} {K : PySem.W.Frag} {mg : Str → Option Value} {base : Heap}
theorem scXEntry : FnScope nXEntry ["_law_hand_here", "_law_custom_here", "_law_persons_here", "_law_most"] (defScope sLEntry) := ⟨rfl, rfl, rfl, by decide +kernel, rfl, by decide +kernel, by decide +kernel⟩
theorem ok_xentry {f : Addr} {fd : FuncData} (F : Fun K "_law_entry" "_law_entry" sLEntry f fd) (m : mg "_law_entry" = some (.ref f)) (T : Bl mg) (D : HasF P w K mg base "_law_draw" 2 ["_law_hand_here", "_law_many"] spDraw) (O : HasF P w K mg base "_law_one" 3 ["_law_hand_here", "_law_rows"] spOne) (G : HasF P w K mg base "_law_deed" 4 ["_law_hand_here", "_law_custom_here", "_law_persons_here"] spXDeed)
    (Nm : HasF P w K mg base "_law_names" 4 ["_law_hand_here", "_law_custom_here"] spXNames) : HasF P w K mg base "_law_entry" 5 ["_law_hand_here", "_law_custom_here", "_law_persons_here", "_law_most"] spXEntry := by
  refine ⟨f, fd, ?_, m, F.kp, F.binds fun _ _ _ _ _ _ us hl => match us, hl with | [_, _, _, _], _ => rfl⟩
  obtain ⟨f1, fd1, D⟩ := D; obtain ⟨f2, fd2, O⟩ := O; obtain ⟨f3, fd3, G⟩ := G; obtain ⟨f4, fd4, Nm⟩ := Nm
  refine F.ok scXEntry (fun vs H Q E h => ?_) (fun cdv A outer s H vs Q E hr h => ?_)
  · obtain ⟨a, b, c, d, e, g, i, rfl, _⟩ := h
    rfl
  · obtain ⟨p, q, c, a, ks, ps, m, rfl, m3, M, k⟩ := h
    have hr2 : Room 2 _ := hr.mono (by decide)
    have hr3 : Room 3 _ := hr.mono (by decide)
    refine ⟨_, (pss_cons (ps_set (i := 4) scXEntry.nd rfl (Or.inl rfl) (pe_call O.G hr3 (by rfl) O.m O.kp O.b .nil pass0 (pa_cons (pv 0) (pa_cons (pe_lst (pa_cons pe_str (pa_cons pe_str (pa_cons pe_str (pa_cons pe_str (pa_cons pe_str (pa_cons pe_str (pa_cons pe_str (pa_cons pe_str pa_nil))))))))) pa_nil))))
    (C8.pss_cut (ps_set (i := 5) scXEntry.nd rfl (Or.inl rfl) (pe_ifExp (pt_cmpR op_in_seq (pv 4) (pe_tup (pa_cons pe_str (pa_cons pe_str pa_nil))) (by rfl)) (pe_call Nm.G hr (by rfl) Nm.m Nm.kp Nm.b .nil pass0 (pa_cons (pv 0) (pa_cons (pv 1) pa_nil))) (pe_lst pa_nil)))
    (pss_cons (ps_set (i := 6) scXEntry.nd rfl (Or.inl rfl) (pe_lst pa_nil))
    (C8.pss_cut (ps_if (pt_cmpR op_in_seq (pv 4) (pe_tup (pa_cons pe_str (pa_cons pe_str (pa_cons pe_str pa_nil)))) (by rfl)) (pss_one (ps_for PassesOwn.never rfl (pi_range1 (by rfl) T.range (pa_cons (pe_call D.G hr2 (by rfl) D.m D.kp D.b .nil pass0 (pa_cons (pv 0) (pa_cons (pe_op op_add (pv 3) pe_int) pa_nil))) pa_nil)) (pg_name (i := 7) scXEntry.nd rfl (.inl rfl))
        (pss_cons (ps_set (i := 8) scXEntry.nd rfl (Or.inl rfl) (pe_call G.G hr (by rfl) G.m G.kp G.b .nil pass0 (pa_cons (pv 0) (pa_cons (pv 1) (pa_cons (pv 2) pa_nil)))))
    (pss_one (ps_if (PW.pt (pw_or (pt_cmpR op_ne (pv 4) pe_str (nomark _)) (pw_or1 (pt_cmpR op_in_seq (pe_ix ix_tup (pv 8) pe_int (fun _ _ => rfl)) (pv 5) (by rfl))))) (pss_one (ps_expr (pe_bm PySem.F.plainAttrs_list PySem.F.slot_list_append PySem.F.type_list_append mt_append (pv 6) (pa_cons (pv 8) pa_nil)))) pss_nil))))) pss_nil)
    (pss_one (ps_ret (pe_lst (pa_cons (pv 4) (pa_cons (pv 5) (pa_cons (pv 6) pa_nil)))))))))), ?_⟩
    refine ⟨_, rfl, (by show 8 ≤ sizeLine; decide), fun l hl => ?_⟩
    have d0 := (Dr.refl M.hp).new (o := .lst [.str "known", .str "unknown", .str "without", .str "noted", .str "holding", .str "known", .str "known", .str "noted"]) hl
    refine ⟨p, q, l, _, rfl, d0.hp, upd_same, M.hp.ap hl, (by show 0 < 8; decide), (by show 8 ≤ 1000; decide), fun x H1 hx hp1 k1 => ?_⟩
    have d1 := d0.draw k1 hp1
    obtain ⟨w', rfl⟩ : ∃ w' : Ew, x = .str (wordE w') := by
      simp only [List.mem_cons, List.not_mem_nil, or_false] at hx
      rcases hx with h | h | h | h | h | h | h | h
      · exact ⟨.known, h⟩
      · exact ⟨.unknown, h⟩
      · exact ⟨.without, h⟩
      · exact ⟨.noted, h⟩
      · exact ⟨.holding, h⟩
      · exact ⟨.known, h⟩
      · exact ⟨.known, h⟩
      · exact ⟨.noted, h⟩
    refine ⟨fun σ H2 => ∃ (n : Addr) (ns : List Str), σ = [some (.ref p), some (.ref c), some (.ref a), some (.int (m : Nat)), some (.str (wordE w')), some (.ref n), none, none, none] ∧ Dr H H2 p q ∧ wo p H2 n = some (.lst (ns.map V.str)) ∧ H n = none ∧ ns.Nodup ∧ (∀ z ∈ ns, z ∈ ks.map (·.1)) ∧ (w' ≠ .without → w' ≠ .noted → ns = []), ?_, ?_⟩
    · refine ⟨_, rfl, (by show 2 ≤ sizeLine; decide), fun t ht => ⟨t, _, rfl, .inr (SqT.of upd_same), rfl, rfl, _, rfl, ?_⟩⟩
      have d2 := d1.new (o := .tup [.str "without", .str "noted"]) ht
      rw [if_neg Bool.false_ne_true, word_wn]
      by_cases e : w' = .without ∨ w' = .noted
      · rw [decide_eq_true e]
        refine iteT ⟨_, rfl, _, rfl, p, q, c, ks, rfl, d2.hp, (M.keep d2).cu, M.gk, fun b fs H' hb0 d' hb nd sub => ?_⟩
        exact ⟨b, fs, rfl, d2.trans d', hb, (d2.free hb0).1, nd, sub, fun h1 h2 => (e.elim h1 h2).elim⟩
      · rw [decide_eq_false e]
        refine iteF ⟨Nat.zero_le _, fun n hn => ?_⟩
        exact ⟨n, [], rfl, d2.new hn, (d2.newS hn).2, (d2.free hn).1, .nil, fun z hz => (nomatch hz), fun _ _ => rfl⟩
    rintro σ H2 ⟨n, ns, rfl, d2, hn, n0, nd, sub, nw⟩
    refine ⟨Nat.zero_le _, fun d hd => ?_⟩
    have u0 : Und H (upd H2 d (.lst [])) p q d [] := Und.start d2 hd
    have hn0 : hid d p (upd H2 d (.lst [])) n = some (.lst (ns.map V.str)) := by
      obtain ⟨h, np⟩ := wo_get hn
      have nd' := ne_of_none h hd
      exact hid_at (by rw [upd_ne nd']; exact h) nd' np
    refine ⟨fun σ H3 => ∃ (xs : List V) (ds : List Deed) (v7 v8 : Option V), σ = [some (.ref p), some (.ref c), some (.ref a), some (.int (m : Nat)), some (.str (wordE w')), some (.ref n), some (.ref d), v7, v8] ∧ Und H H3 p q d xs ∧ Paired (Ss .tup (hid d p H3)) xs ds ∧ ds.length ≤ 3 ∧ (∀ x ∈ ds, Made ks ps x) ∧ (w' = .noted → ∀ x ∈ ds, hdOf x ∈ ns) ∧ hid d p H3 n = some (.lst (ns.map V.str)) ∧ (w' = .unknown ∨ w' = .without → ds = []), ?_, ?_⟩
    · refine ⟨_, rfl, (by show 3 ≤ sizeLine; decide), fun t ht => ⟨t, _, rfl, .inr (SqT.of upd_same), rfl, rfl, _, rfl, ?_⟩⟩
      obtain ⟨u1, _, _, _, s1⟩ := u0.new (o := .tup [.str "known", .str "noted", .str "holding"]) ht
      have hn1 := s1 _ _ hn0
      rw [if_neg Bool.false_ne_true, word_knh]
      by_cases e : w' = .known ∨ w' = .noted ∨ w' = .holding
      · rw [decide_eq_true e]
        refine iteT ?_
        refine ⟨_, rfl, _, rfl, _, _, rfl, rfl, p, q, _, rfl, u1.d.hp, by omega, by exact Nat.lt_of_le_of_lt (show ((m : Int) + 1).natAbs ≤ 4 by omega) (by decide), fun z H4 z0 z1 hp4 k4 => ?_⟩
        have d14 : Dr _ H4 p q := ⟨hp4, k4⟩
        have u4 := u1.dr d14
        have hn4 := u1.kh d14 _ _ hn1
        refine ⟨_, rfl, by omega, by omega, for_range (n := z.toNat) (fun i σ H3 => ∃ (xs : List V) (ds : List Deed) (v7 v8 : Option V), σ = [some (.ref p), some (.ref c), some (.ref a), some (.int (m : Nat)), some (.str (wordE w')), some (.ref n), some (.ref d), v7, v8] ∧ Und H H3 p q d xs ∧ Paired (Ss .tup (hid d p H3)) xs ds ∧ ds.length ≤ i ∧ (∀ x ∈ ds, Made ks ps x) ∧ (w' = .noted → ∀ x ∈ ds, hdOf x ∈ ns) ∧ hid d p H3 n = some (.lst (ns.map V.str)))
          ⟨[], [], none, none, rfl, u4, .nil, Nat.le_refl _, fun x hx => (nomatch hx), fun _ x hx => (nomatch hx), hn4⟩ ?_ ?_⟩
        · rintro i σ H3 hi ⟨xs, ds, v7, v8, rfl, u3, px, dl, md, nt, hn3⟩
          refine ⟨_, rfl, _, rfl, _, rfl, p, q, c, a, ks, ps, rfl, M.keep u3.d, fun t zs H5 d5 mz ht => ?_⟩
          have u5 := u3.dr d5
          have s5 := u3.kh d5
          have hn5 := s5 _ _ hn3
          obtain ⟨ht1, tp⟩ := wo_get ht
          have td : t ≠ d := fun e => by rw [e, u5.at_] at ht1; cases ht1
          have px5 : Paired (Ss .tup (hid d p H5)) xs ds := pr_imp px fun _ _ h => h.keep s5
          obtain ⟨z, zr, rfl⟩ : ∃ z zr, zs = z :: zr := by
            cases zs with
            | nil => exact absurd rfl mz.ne
            | cons z zr => exact ⟨z, zr, rfl⟩
          have add : (w' = .noted → z ∈ ns) → ∃ (xs' : List V) (ds : List Deed) (v7 v8 : Option V), ([some (.ref p), some (.ref c), some (.ref a), some (.int (m : Nat)), some (.str (wordE w')), some (.ref n), some (.ref d), some (.int ((0 : Int) + (i : Nat))), some (.ref t)] : L2.St) = [some (.ref p), some (.ref c), some (.ref a), some (.int (m : Nat)), some (.str (wordE w')), some (.ref n), some (.ref d), v7, v8] ∧ Und H (upd H5 d (.lst (xs ++ [.ref t]))) p q d xs' ∧ Paired (Ss .tup (hid d p (upd H5 d (.lst (xs ++ [.ref t]))))) xs' ds ∧ ds.length ≤ i + 1 ∧ (∀ x ∈ ds, Made ks ps x) ∧ (w' = .noted → ∀ x ∈ ds, hdOf x ∈ ns) ∧ hid d p (upd H5 d (.lst (xs ++ [.ref t]))) n = some (.lst (ns.map V.str)) := fun hz => by
            refine ⟨xs ++ [.ref t], ds ++ [z :: zr], _, _, rfl, u5.set, pr_app (pr_imp px5 fun _ _ h => h.keep hid_b) (.cons ⟨t, rfl, hid_at (by rw [upd_ne td]; exact ht1) td tp⟩ .nil), by simp; omega, fun x hx => ?_, fun e x hx => ?_, hid_b _ _ hn5⟩
            · rcases List.mem_append.mp hx with h | h
              · exact md x h
              · rw [List.mem_singleton.mp h]
                exact mz
            · rcases List.mem_append.mp hx with h | h
              · exact nt e x h
              · rw [List.mem_singleton.mp h]
                exact hz e
          have lxs : xs.length ≤ 3 := by rw [Paired.length px]; omega
          refine ⟨_, rfl, rfl, _, rfl, ?_⟩
          rw [word_n]
          by_cases e2 : w' = .noted
          · rw [decide_eq_true e2]
            refine iteF ⟨_, rfl, t, _, 0, .str z, rfl, rfl, SqT.of ht1, atI0 _ _, _, rfl, n, _, rfl, .inl (SqL.of (hid_get hn5).1), rfl, flat_strs _, _, rfl, ?_⟩
            rw [if_neg Bool.false_ne_true, inV_strs]
            by_cases e3 : z ∈ ns
            · rw [decide_eq_true e3]
              exact iteT ⟨_, rfl, .inl ⟨rfl, _, SqL.of u5.at_⟩, _, rfl, d, _, _, rfl, rfl, u5.at_, small1000 (by omega), add fun _ => e3⟩
            · rw [decide_eq_false e3]
              exact iteF ⟨xs, ds, _, _, rfl, u5, px5, by omega, md, nt, hn5⟩
          · rw [decide_eq_false e2]
            exact iteT ⟨_, rfl, .inl ⟨rfl, _, SqL.of u5.at_⟩, _, rfl, d, _, _, rfl, rfl, u5.at_, small1000 (by omega), add fun e => absurd e e2⟩
        · rintro σ H3 ⟨xs, ds, v7, v8, rfl, u3, px, dl, md, nt, hn3⟩
          exact ⟨xs, ds, v7, v8, rfl, u3, px, by omega, md, nt, hn3, fun e' => by
            rcases e' with rfl | rfl
            · exact absurd e (by decide)
            · exact absurd e (by decide)⟩
      · rw [decide_eq_false e]
        exact iteF ⟨[], [], none, none, rfl, u1, .nil, Nat.zero_le _, fun x hx => (nomatch hx), fun _ x hx => (nomatch hx), hn1, fun _ => rfl⟩
    rintro σ H3 ⟨xs, ds, v7, v8, rfl, u3, px, dl, md, nt, hn3, no⟩
    refine ⟨_, rfl, _, rfl, _, rfl, (by show 3 ≤ sizeLine; decide), fun r hr' => ?_⟩
    have d5 := u3.d.newS (o := .lst [V.str (wordE w'), .ref n, .ref d]) hr'
    have sw : Same (wo p H3) (wo p (upd H3 r (.lst [V.str (wordE w'), .ref n, .ref d]))) := wo_mono d5.1
    have r0 := (u3.d.free hr').1
    have dr := u3.d.new (o := .lst [V.str (wordE w'), .ref n, .ref d]) hr'
    have e1 := sw _ _ (hid_wo _ _ hn3)
    have e2 := sw _ _ (wo_at u3.at_ u3.bp)
    refine k r ⟨w', ns, ds⟩ _ dr ⟨r, n, d, xs, rfl, d5.2, e1, e2, pr_imp px fun _ _ h => (h.keep hid_wo).keep sw⟩ (fun L ys hL Lp => ?_) ⟨⟨nw, by show ds.length ≤ 100; omega, sub, md, nt⟩, nd, dl, no⟩
    exact ⟨r, n, d, xs, rfl, wo_at d5.2 (fun z => by rw [z, hL] at r0; cases r0), wo_at e1 (fun z => by rw [z, hL] at n0; cases n0), wo_at e2 (fun z => by have b0 := u3.b0; rw [z, hL] at b0; cases b0), pr_imp px fun _ _ h => ((h.keep hid_wo).keep sw).hidL (dr.kp _ _ hL Lp)⟩
end
end Kx

set_option maxHeartbeats 4000000
namespace Kx
open PySem PySem.Spec PyProof.Rows L2
section
variable {X : Cx}
/-- two lists, of other lengths or both empty -/
def rEqL (K : PySem.W.Frag) : R2 := fun x y H Q => ∃ a b xs ys, x = .ref a ∧ y = .ref b ∧ SqL K H a xs ∧ SqL K H b ys ∧ ((xs.length ≠ ys.length ∧ Q (.bl false) H) ∨ (xs = [] ∧ ys = [] ∧ Q (.bl true) H))
theorem op_eqL (hu : X.A.units + 64 < cLine) : OpR X (compareOp .Eq) (rEqL X.K) := by
  intro pins s σ H x y v u Q I rx ry h
  obtain ⟨a, b, xs, ys, rfl, rfl, ha, hb, h⟩ := h
  obtain rfl : v = Value.ref a := rx
  obtain rfl : u = Value.ref b := ry
  obtain ⟨its, rv, pl, hz⟩ := I.list ha
  obtain ⟨ius, ru, pu, hw⟩ := I.list hb
  have l1 := rv.length
  have l2 := ru.length
  rcases h with ⟨ne, q⟩ | ⟨rfl, rfl, q⟩
  · exact SeqAt.RcAt.lists_lengths pl.isList pu.isList (by simp only [List.size_toArray, bne_iff_ne, ne_eq]; omega) (by omega) X.prog X.w X.xe _ ⟨.bl false, H, I, rfl, q⟩
  · have e := SeqAt.RcAt.lists (e := fun _ => true) (A := X.A) pl.isList pu.isList (by simp only [List.size_toArray]; omega) (by omega) fun j h1 h2 => by
      simp only [List.size_toArray] at h1
      rw [← l1] at h1
      exact absurd h1 (Nat.not_lt_zero j)
    refine e X.prog X.w X.xe _ ⟨.bl true, H, I, ?_, q⟩
    show Value.bool _ = Value.bool true
    simp
end
/-! [x for x in xs if ..]: only whether anything is left is told -/
def okV (y : V) : Prop := flatV y = true ∨ ∃ c, y = .ref c
theorem lc_filt {K : PySem.W.Frag} {a : Addr} {xs : List V} {g : TG} {tt : TT} {te : TE} {vs : List Nat} {σ : L2.St} {H0 H1 : Hp} {Qd : Addr → Hp → Prop} (bad : Nat → Bool) (q : IsSeq K H0 a xs) (s0 : Same H0 H1) (hz : xs.length ≤ 2000000)
    (step : ∀ D i x H (kt : V → Hp → Prop) (kf : Hp → Prop), xs[i]? = some x → H1 D = none → Same H1 H → (∃ acc, H D = some (.lst acc)) → (bad i = true → ∀ y H4, okV y → Same H H4 → kt y H4) → (bad i = false → ∀ H4, Same H H4 → kf H4) →
      g x (wipe σ vs) H fun σ2 H2 => wipe σ2 vs = wipe σ vs ∧ tt σ2 H2 fun b H3 => if b = true then te σ2 H3 kt else kf H3)
    (after : ∀ D ys H, H1 D = none → Same H1 H → H D = some (.lst ys) → ys.length ≤ xs.length → (∀ z ∈ ys, okV z) → (ys = [] ↔ ∀ i, i < xs.length → bad i = false) → Qd D H) : LcB K a g tt te vs σ H1 Qd := by
  refine lc_sq q s0 fun D hD => ⟨fun i H => Same H1 H ∧ ∃ acc, H D = some (.lst acc) ∧ acc.length ≤ i ∧ i ≤ xs.length ∧ (∀ z ∈ acc, okV z) ∧ (acc = [] ↔ ∀ j, j < i → bad j = false), ⟨sameUpd (Same.refl _) hD, [], upd_same, Nat.le_refl _, Nat.zero_le _, (fun z h => nomatch h), ⟨fun _ j h => absurd h (Nat.not_lt_zero _), fun _ => rfl⟩⟩, fun i H p => s0.trans p.1, ?_, ?_⟩
  · rintro i x H hi ⟨s1, acc, hd, al, _, ok, ha⟩
    have lt : i < xs.length := (List.getElem?_eq_some_iff.mp hi).1
    refine step D i x H _ _ hi hD s1 ⟨acc, hd⟩ (fun hb y H4 oy s4 => ?_) (fun hb H4 s4 => ?_)
    · refine ⟨acc, s4 _ _ hd, line2 (by omega), woD hD s1 s4, acc ++ [y], upd_same, by simp; omega, lt, fun z hz => (List.mem_append.mp hz).elim (ok z) fun h => by rw [List.mem_singleton.mp h]; exact oy, ⟨fun e => by simp at e, fun e => ?_⟩⟩
      rw [e i (Nat.lt_succ_self _)] at hb
      cases hb
    · refine ⟨s1.trans s4, acc, s4 _ _ hd, by omega, lt, ok, ha.trans ⟨fun e j hj => ?_, fun e j hj => e j (by omega)⟩⟩
      by_cases ej : j = i
      · rw [ej]; exact hb
      · exact e j (by omega)
  · rintro H ⟨s1, acc, hd, al, _, ok, ha⟩
    exact after D acc H hD s1 hd al ok ha
theorem lc_filtE {K : PySem.W.Frag} {a : Addr} {xs : List V} {g : TG} {tt : TT} {te : TE} {vs : List Nat} {σ : L2.St} {H0 H1 : Hp} {Qd : Addr → Hp → Prop} (bad : Nat → Bool) (q : IsSeq K H0 a xs) (s0 : Same H0 H1) (hz : xs.length ≤ 2000000)
    (step : ∀ D i x H T (kt : V → Hp → Prop) (kf : Hp → Prop), xs[i]? = some x → H1 D = none → Same H1 H → H T = none → (bad i = true → ∀ y H4, okV y → Same (upd H T (.tup [.int (i : Nat), x])) H4 → kt y H4) → (bad i = false → ∀ H4, Same (upd H T (.tup [.int (i : Nat), x])) H4 → kf H4) →
      g (.ref T) (wipe σ vs) (upd H T (.tup [.int (i : Nat), x])) fun σ2 H2 => wipe σ2 vs = wipe σ vs ∧ tt σ2 H2 fun b H3 => if b = true then te σ2 H3 kt else kf H3)
    (after : ∀ D ys H, H1 D = none → Same H1 H → H D = some (.lst ys) → ys.length ≤ xs.length → (∀ z ∈ ys, okV z) → (ys = [] ↔ ∀ i, i < xs.length → bad i = false) → Qd D H) :
    (SqL K H1 a xs ∧ LcE (Ite K a) g tt te vs σ H1 Qd) ∨ (SqT K H1 a xs ∧ LcE (IteT K a) g tt te vs σ H1 Qd) := by
  refine lc_en q s0 fun D hD => ⟨fun i H => Same H1 H ∧ ∃ acc, H D = some (.lst acc) ∧ acc.length ≤ i ∧ i ≤ xs.length ∧ (∀ z ∈ acc, okV z) ∧ (acc = [] ↔ ∀ j, j < i → bad j = false), ⟨sameUpd (Same.refl _) hD, [], upd_same, Nat.le_refl _, Nat.zero_le _, (fun z h => nomatch h), ⟨fun _ j h => absurd h (Nat.not_lt_zero _), fun _ => rfl⟩⟩, fun i H p => s0.trans p.1, ?_, ?_⟩
  · rintro i x H T hi ⟨s1, acc, hd, al, _, ok, ha⟩ hT
    have lt : i < xs.length := (List.getElem?_eq_some_iff.mp hi).1
    have sT : Same H (upd H T (.tup [.int (i : Nat), x])) := sameUpd (Same.refl _) hT
    refine step D i x H T _ _ hi hD s1 hT (fun hb y H4 oy s4 => ?_) (fun hb H4 s4 => ?_)
    · refine ⟨acc, s4 _ _ (sT _ _ hd), line2 (by omega), woD hD s1 (sT.trans s4), acc ++ [y], upd_same, by simp; omega, lt, fun z hz => (List.mem_append.mp hz).elim (ok z) fun h => by rw [List.mem_singleton.mp h]; exact oy, ⟨fun e => by simp at e, fun e => ?_⟩⟩
      rw [e i (Nat.lt_succ_self _)] at hb
      cases hb
    · refine ⟨s1.trans (sT.trans s4), acc, s4 _ _ (sT _ _ hd), by omega, lt, ok, ha.trans ⟨fun e j hj => ?_, fun e j hj => e j (by omega)⟩⟩
      by_cases ej : j = i
      · rw [ej]; exact hb
      · exact e j (by omega)
  · rintro H ⟨s1, acc, hd, al, _, ok, ha⟩
    exact after D acc H hD s1 hd al ok ha
theorem eqL_nil {K : PySem.W.Frag} {H : Hp} {D l : Addr} {ys : List V} {Q : VK} (hd : H D = some (.lst ys)) (hl : H l = some (.lst [])) (q : Q (.bl ys.isEmpty) H) : rEqL K (.ref D) (.ref l) H Q := by
  refine ⟨D, l, ys, [], rfl, rfl, SqL.of hd, SqL.of hl, ?_⟩
  cases ys with
  | nil => exact .inr ⟨rfl, rfl, q⟩
  | cons y ys => exact .inl ⟨by simp, q⟩
/-- xs != [] -/
theorem ne_nil {K : PySem.W.Frag} {H : Hp} {D : Addr} {ys : List V} {Q : VK} (hd : H D = some (.lst ys)) (ok : ∀ z ∈ ys, flatV z = true ∨ ∃ c, z = .ref c) (l : Addr) (hl : H l = some (.lst [])) (q : Q (.bl (!ys.isEmpty)) H) : rNeL K (.ref D) (.ref l) H Q := by
  refine ⟨D, l, ys, [], rfl, rfl, SqL.of hd, SqL.of hl, ?_⟩
  cases ys with
  | nil => exact .inr ⟨rfl, ok, q⟩
  | cons y ys => exact .inl ⟨by simp, q⟩
theorem op_inK {X : Cx} {K : PySem.W.Frag} (h : X.K = K) : OpR X (compareOp .In) (rIn K false) := by
  subst h
  exact op_in_seq
theorem op_notInK {X : Cx} {K : PySem.W.Frag} (h : X.K = K) : OpR X (compareOp .NotIn) (rIn K true) := by
  subst h
  exact op_notIn_seq
theorem op_eqDK {X : Cx} {K : PySem.W.Frag} (h : X.K = K) (hu : X.A.units + 64 < cLine) : OpR X (compareOp .Eq) (rEqD K) := by
  subst h
  exact op_eqD hu
theorem ix_listK {X : Cx} {K : PySem.W.Frag} (h : X.K = K) : IxR X (rIxL K) := by
  subst h
  exact ix_list
theorem ix_tupK {X : Cx} {K : PySem.W.Frag} (h : X.K = K) : IxR X (rIxT K) := by
  subst h
  exact ix_tup
end Kx

set_option maxHeartbeats 8000000
namespace Kx
open PySem L2
/-! rows of drawn entries; the free kinds -/
def EsA (W : Hp) (b : Addr) (es : List En) : Prop := ∃ xs, W b = some (.lst xs) ∧ Paired (EntA W) xs es
theorem EsA.keep {H H' : Hp} {b : Addr} {es : List En} (h : EsA H b es) (s : Same H H') : EsA H' b es := by
  obtain ⟨xs, h1, h2⟩ := h
  exact ⟨xs, s _ _ h1, pr_imp h2 fun _ _ q => q.keep s⟩
def spXEntries : Sp := fun vs H Q _ => ∃ (p q c a : Addr) (ks : List (Str × Int)) (ps : List Str), vs = [.ref p, .ref c, .ref a, .int 4, .int 3] ∧ Mt H p q c a ks ps ∧ ∀ (b : Addr) (es : List En) (H' : Hp), Dr H H' p q → EsA (wo p H') b es → es.length ≤ 4 → (∀ e ∈ es, GoodEn ks ps e) → Q (.ref b) H'
abbrev nXEntries : List Str := ["_law_hand_here", "_law_custom_here", "_law_persons_here", "_law_many", "_law_most", "_law_count", "_law_k"]
def spXFree : Sp := fun vs H Q _ => ∃ (c r : Addr) (ks : List (Str × Int)) (e : En), vs = [.ref c, .ref r] ∧ CusAt H c ks ∧ EntA H (.ref r) e ∧ ks.length ≤ 1000 ∧ ∀ (l : Addr) (H' : Hp), Same H H' → H l = none → H' l = some (.lst ((freeE (ks.map (·.1)) e).map V.str)) → Q (.ref l) H'
abbrev nXFree : List Str := ["_law_custom_here", "_law_entry_here", "_law_name", "_law_many"]
theorem word_k (k : Ew) : decide (V.str (wordE k) = .str "known") = decide (k = .known) := by cases k <;> decide +kernel
section
variable {P : Program} {w : World} {K : PySem.W.Frag} {mg : Str → Option Value} {base : Heap}
theorem scXEntries : FnScope nXEntries ["_law_hand_here", "_law_custom_here", "_law_persons_here", "_law_many", "_law_most"] (defScope sLEntries) := ⟨rfl, rfl, rfl, by decide +kernel, rfl, by decide +kernel, by decide +kernel⟩
theorem ok_xentries {f : Addr} {fd : FuncData} (F : Fun K "_law_entries" "_law_entries" sLEntries f fd) (m : mg "_law_entries" = some (.ref f)) (T : Bl mg) (mi : mg "min" = none) (O : HasF P w K mg base "_law_one" 3 ["_law_hand_here", "_law_rows"] spOne)
    (G : HasF P w K mg base "_law_entry" 5 ["_law_hand_here", "_law_custom_here", "_law_persons_here", "_law_most"] spXEntry) : HasF P w K mg base "_law_entries" 6 ["_law_hand_here", "_law_custom_here", "_law_persons_here", "_law_many", "_law_most"] spXEntries := by
  refine ⟨f, fd, ?_, m, F.kp, F.binds fun _ _ _ _ _ _ us hl => match us, hl with | [_, _, _, _, _], _ => rfl⟩
  obtain ⟨f1, fd1, O⟩ := O; obtain ⟨f2, fd2, G⟩ := G
  refine F.ok scXEntries (fun vs H Q E h => ?_) (fun cdv A outer s H vs Q E hr h => ?_)
  · obtain ⟨a, b, c, d, e, g, rfl, _⟩ := h
    rfl
  · obtain ⟨p, q, c, a, ks, ps, rfl, M, k⟩ := h
    have hr3 : Room 3 _ := hr.mono (by decide)
    refine ⟨_, (C8.pss_cut (ps_set (i := 5) scXEntries.nd rfl (Or.inl rfl) (pe_callB (call_min2 rfl) (by rfl) mi (by decide +kernel) (pa_cons (pv 3) (pa_cons (pe_call O.G hr3 (by rfl) O.m O.kp O.b .nil pass0 (pa_cons (pv 0) (pa_cons (pe_lst (pa_cons (pv 3) (pa_cons pe_int (pa_cons pe_int (pa_cons (pv 3) (pa_cons pe_int (pa_cons pe_int (pa_cons (pv 3) (pa_cons pe_int pa_nil))))))))) pa_nil))) pa_nil))))
    (pss_one (ps_ret (pe_lc (own := [("_law_k", 6)]) (g := gName 6) (tt := tYes) (by rfl) scXEntries.nd (pi_range1 (by rfl) T.range (pa_cons (pv 5) pa_nil)) (blkOk_by (own := [("_law_k", 6)]) (N := nXEntries) (sc := defScope sLEntries) (by decide +kernel)) (fun _ _ _ _ _ => pg_name (i := 6) scXEntries.nd rfl (Or.inl rfl)) (fun _ _ _ _ _ => pts_nil) (fun _ _ _ _ _ => (pe_call G.G hr (by rfl) G.m G.kp G.b .nil pass0 (pa_cons (pv 0) (pa_cons (pv 1) (pa_cons (pv 2) (pa_cons (pv 4) pa_nil)))))))))), ?_⟩
    refine ⟨fun σ H1 => ∃ n : Nat, σ = [some (.ref p), some (.ref c), some (.ref a), some (.int 4), some (.int 3), some (.int (n : Nat)), none] ∧ n ≤ 4 ∧ Dr H H1 p q, ?_, ?_⟩
    · refine ⟨_, rfl, _, rfl, _, rfl, _, rfl, _, rfl, (by show 8 ≤ sizeLine; decide), fun l hl => ?_⟩
      have d0 := (Dr.refl M.hp).new (o := .lst [.int 4, .int 1, .int 2, .int 4, .int 1, .int 2, .int 4, .int 0]) hl
      refine ⟨p, q, l, _, rfl, d0.hp, upd_same, M.hp.ap hl, (by show 0 < 8; decide), (by show 8 ≤ 1000; decide), fun x H1 hx hp1 k1 => ?_⟩
      have d1 := d0.draw k1 hp1
      obtain ⟨n, rfl, n4⟩ : ∃ n : Nat, x = .int (n : Nat) ∧ n ≤ 4 := by
        simp only [List.mem_cons, List.not_mem_nil, or_false] at hx
        rcases hx with h | h | h | h | h | h | h | h
        · exact ⟨4, h, by decide⟩
        · exact ⟨1, h, by decide⟩
        · exact ⟨2, h, by decide⟩
        · exact ⟨4, h, by decide⟩
        · exact ⟨1, h, by decide⟩
        · exact ⟨2, h, by decide⟩
        · exact ⟨4, h, by decide⟩
        · exact ⟨0, h, by decide⟩
      refine ⟨_, _, rfl, n, ?_, n4, d1⟩
      have : (if ((n : Nat) : Int) < 4 then ((n : Nat) : Int) else 4) = (n : Nat) := by split <;> omega
      rw [this]
      rfl
    rintro σ H1 ⟨n, rfl, n4, d1⟩
    refine ⟨_, rfl, _, rfl, by omega, by omega, fun L hL => ?_⟩
    have u1 : Und H (upd H1 L (.lst [])) p q L [] := Und.start d1 hL
    refine lc_range (lo := 0) (n := ((n : Nat) : Int).toNat) (fun j Hj => ∃ (acc : List V) (es : List En), Und H Hj p q L acc ∧ Paired (EntA (hid L p Hj)) acc es ∧ es.length = j ∧ ∀ e ∈ es, GoodEn ks ps e) ?_ ?_ ?_
    · exact ⟨[], [], u1, .nil, rfl, fun e he => nomatch he⟩
    · rintro j Hj hj ⟨acc, es, uj, pa, el, ge⟩
      refine ⟨rfl, ?_⟩
      refine ⟨_, rfl, _, rfl, _, rfl, _, rfl, p, q, c, a, ks, ps, 3, rfl, by decide, M.keep uj.d, fun r e H5 d5 he he2 g5 => ?_⟩
      have u5 := uj.dr d5
      have he' : EntA (hid L p (upd H5 L (.lst (acc ++ [.ref r])))) (.ref r) e := by
        refine EntA.keep (H := hid L p H5) ?_ hid_b
        exact he2 L acc uj.at_ uj.bp
      refine ⟨acc, u5.at_, small1000 (by rw [Paired.length pa]; omega), acc ++ [.ref r], es ++ [e], u5.set, pr_app (pr_imp pa fun _ _ h => (h.keep (uj.kh d5)).keep hid_b) (.cons he' .nil), by simp [el], fun e' h' => ?_⟩
      rcases List.mem_append.mp h' with h | h
      · exact ge e' h
      · rw [List.mem_singleton.mp h]
        exact g5
    · rintro Hj ⟨acc, es, uj, pa, el, ge⟩
      exact k L es Hj uj.d ⟨acc, wo_at uj.at_ uj.bp, pr_imp pa fun _ _ h => h.keep hid_wo⟩ (by omega) ge
end
end Kx

set_option maxHeartbeats 8000000
namespace Kx
open PySem L2
/-! the law's free and lets -/
def natV (n : Nat) : V := .int (n : Nat)
theorem natV_flat : ∀ ns : List Nat, (ns.map natV).all flatV = true
  | [] => rfl
  | _ :: ns => natV_flat ns
theorem natV_in (n : Nat) : ∀ ns : List Nat, inV (natV n) (ns.map natV) = decide (n ∈ ns)
  | [] => rfl
  | y :: ns => by
    have ih := natV_in n ns
    unfold inV at ih ⊢
    rw [List.map_cons, List.any_cons, ih]
    by_cases h : n = y
    · subst h
      simp [eqV, natV]
    · have : eqV (natV y) (natV n) = false := by simp [eqV, natV]; omega
      rw [this]
      simp [h]
def spXLets : Sp := fun vs H Q _ => ∃ (c r y : Addr) (ks : List (Str × Int)) (e : En) (ds : List Deed), vs = [.ref c, .ref r, .ref y] ∧ CusAt H c ks ∧ ks.length ≤ 1000 ∧ EntA H (.ref r) e ∧ Yr H (.ref y) ds ∧ ds.length ≤ 12 ∧ e.told.length ≤ 1000 ∧ (∀ d ∈ ds, d ≠ [] ∧ ∀ z ∈ d, PyData.strOk z = true) ∧ (∀ d ∈ e.told, ∀ z ∈ d, PyData.strOk z = true) ∧
  ∀ H', Same H H' → Q (.bl (letsL (freeE (ks.map (·.1)) e) e.told ds)) H'
abbrev nXLets : List Str := ["_law_custom_here", "_law_entry_here", "_law_year", "_law_free_here", "_law_places", "_law_deed_here", "_law_after", "_law_place"]
section
variable {P : Program} {w : World} {K : PySem.W.Frag} {mg : Str → Option Value} {base : Heap}
theorem scXFree : FnScope nXFree ["_law_custom_here", "_law_entry_here"] (defScope sLFree) := ⟨rfl, rfl, rfl, by decide +kernel, rfl, by decide +kernel, by decide +kernel⟩
theorem ok_xfree {f : Addr} {fd : FuncData} (F : Fun K "_law_free" "_law_free" sLFree f fd) (m : mg "_law_free" = some (.ref f)) : HasF P w K mg base "_law_free" 1 ["_law_custom_here", "_law_entry_here"] spXFree := by
  refine ⟨f, fd, ?_, m, F.kp, F.binds fun _ _ _ _ _ _ us hl => match us, hl with | [_, _], _ => rfl⟩
  refine F.ok scXFree (fun vs H Q E h => ?_) (fun cdv A outer s H vs Q E hr h => ?_)
  · obtain ⟨a, b, c, d, rfl, _⟩ := h
    rfl
  · obtain ⟨c, r, ks, e, rfl, cu, he, nk, k⟩ := h
    obtain ⟨b, rest, ys, g1, g2, g3⟩ := cu.ex
    obtain ⟨a, n, d, xs, ea, h1, h2, h3, h4⟩ := he
    cases ea
    refine ⟨_, (pss_cons (ps_if (pt_cmpR op_eq (pe_ix ix_list (pv 1) pe_int (fun _ _ => rfl)) pe_str (nomark _)) (pss_one (ps_ret (pe_lst pa_nil))) pss_nil)
    (pss_one (ps_ret (pe_lc (own := [("_law_name", 2), ("_law_many", 3)]) (g := gTup K 2 (gCons (gName 2) (gCons (gName 3) gNil))) (te := tVar 2) (by rfl) scXFree.nd (pi_seq (pe_ix ix_list (pv 0) pe_int (fun _ _ => rfl))) (blkOk_by (own := [("_law_name", 2), ("_law_many", 3)]) (N := nXFree) (sc := defScope sLFree) (by decide +kernel))
        (fun _ _ _ _ _ => pg_tup rfl (pgs_cons (pg_name (i := 2) scXFree.nd rfl (.inl rfl)) (pgs_cons (pg_name (i := 3) scXFree.nd rfl (.inl rfl)) pgs_nil))) (fun _ _ _ _ _ => pts_one (t := tTest (tOp (rIn K true) (tVar 2) (tOp (rIxL K) (tVar 1) (tC (.int 1))))) (pt_cmpR (X := _) (op_notInK rfl) (pv 2) (pe_ix (ix_listK (K := K) rfl) (pv 1) pe_int (fun _ _ => rfl)) (by rfl))) (fun _ _ _ _ _ => (pv 2)))))), ?_⟩
    refine ⟨_, rfl, r, _, 0, _, rfl, rfl, SqL.of h1, atI0 _ _, rfl, _, rfl, ?_⟩
    rw [word_k]
    by_cases ew : e.w = .known
    · rw [decide_eq_true ew]
      refine iteT ⟨Nat.zero_le _, fun l hl => k l _ (sameUpd (Same.refl _) hl) hl ?_⟩
      unfold freeE
      rw [if_pos ew]
      exact upd_same
    rw [decide_eq_false ew]
    refine iteF ?_
    refine ⟨_, rfl, c, _, 0, _, rfl, rfl, SqL.of g1, atI0 _ _, b, rfl, lc_sq (IsSeq.lst g2) (Same.refl _) fun D hD => ⟨fun i H' => Same H H' ∧ H' D = some (.lst (((ks.take i).map (·.1)).filter (fun n => decide (¬ n ∈ e.names)) |>.map V.str)), ⟨sameUpd (Same.refl _) hD, upd_same⟩, fun i H' p => p.1, ?_, ?_⟩⟩
    · rintro i x H3 hi ⟨s3, hd⟩
      obtain ⟨q, hq, t, rfl, ht⟩ := pr_get g3 hi
      have lt := (List.getElem?_eq_some_iff.mp hq).1
      refine ⟨t, _, rfl, SqT.of (s3 _ _ ht), rfl, _, _, rfl, _, _, rfl, rfl, rfl, ?_⟩
      refine ⟨_, rfl, _, rfl, r, _, 1, _, rfl, rfl, SqL.of (s3 _ _ h1), rfl, n, _, rfl, .inl (SqL.of (s3 _ _ h2)), rfl, flat_strs _, _, rfl, ?_⟩
      rw [if_pos rfl, inV_strs]
      have st : ((ks.take (i + 1)).map (·.1)).filter (fun n => decide (¬ n ∈ e.names)) = ((ks.take i).map (·.1)).filter (fun n => decide (¬ n ∈ e.names)) ++ [q.1].filter (fun n => decide (¬ n ∈ e.names)) := by
        rw [take_succ_of hq, List.map_append, List.filter_append]
        rfl
      by_cases hm : q.1 ∈ e.names
      · rw [decide_eq_true hm]
        refine iteF ⟨s3, ?_⟩
        rw [st, show [q.1].filter (fun n => decide (¬ n ∈ e.names)) = [] by simp [hm], List.append_nil]
        exact hd
      · rw [decide_eq_false hm]
        refine iteT ⟨_, rfl, _, hd, small1000 ?_, woD hD s3 (Same.refl _), ?_⟩
        · rw [List.length_map]
          exact Nat.le_trans (List.length_filter_le _ _) (by rw [List.length_map, List.length_take]; omega)
        rw [upd_same, st, show [q.1].filter (fun n => decide (¬ n ∈ e.names)) = [q.1] by simp [hm], List.map_append]
        rfl
    · rintro H3 ⟨s3, hd⟩
      rw [Paired.length g3, List.take_length] at hd
      refine k D _ s3 hD ?_
      unfold freeE
      rw [if_neg ew]
      exact hd
theorem scXLets : FnScope nXLets ["_law_custom_here", "_law_entry_here", "_law_year"] (defScope sLLets) := ⟨rfl, rfl, rfl, by decide +kernel, rfl, by decide +kernel, by decide +kernel⟩
theorem ok_xlets {f : Addr} {fd : FuncData} (F : Fun K "_law_lets" "_law_lets" sLLets f fd) (m : mg "_law_lets" = some (.ref f)) (T : Bl mg) (B : Bm mg) (Fr : HasF P w K mg base "_law_free" 1 ["_law_custom_here", "_law_entry_here"] spXFree) : HasF P w K mg base "_law_lets" 2 ["_law_custom_here", "_law_entry_here", "_law_year"] spXLets := by
  refine ⟨f, fd, ?_, m, F.kp, F.binds fun _ _ _ _ _ _ us hl => match us, hl with | [_, _, _], _ => rfl⟩
  obtain ⟨f1, fd1, Fr⟩ := Fr
  refine F.ok scXLets (fun vs H Q E h => ?_) (fun cdv A outer s H vs Q E hr h => ?_)
  · obtain ⟨a, b, c, d, e, g, rfl, _⟩ := h
    rfl
  · obtain ⟨c, r, y, ks, e, ds, rfl, cu, nk, he, hy, ln, lt, okd, okt, k⟩ := h
    refine ⟨_, (C8.pss_cut (ps_set (i := 3) scXLets.nd rfl (Or.inl rfl) (pe_call Fr.G hr (by rfl) Fr.m Fr.kp Fr.b .nil pass0 (pa_cons (pv 0) (pa_cons (pv 1) pa_nil))))
    (pss_cons (ps_set (i := 4) scXLets.nd rfl (Or.inl rfl) (pe_lst (pa_cons pe_int pa_nil)))
    (pss_cons (ps_for PassesOwn.never rfl (pi_seq (pv 2)) (pg_name (i := 5) scXLets.nd rfl (.inr rfl))
        (pss_cons (ps_setLc (i := 6) (own := [("_law_place", 7)]) (g := gName 7) (by rfl) scXLets.nd rfl rfl (sw_true rfl rfl rfl (by decide +kernel)) (pi_seq (pv 4)) (blkOk_by (own := [("_law_place", 7)]) (N := nXLets) (sc := defScope sLLets) (by decide +kernel))
            (fun _ _ _ _ _ => pg_name (i := 7) scXLets.nd rfl (.inl rfl)) (fun _ _ _ _ _ => pts_one (PW.pt (pw_and (pt_cmpR op_lt (pv 7) (pe_callB (call_lenK (K := K) rfl) (by rfl) T.len PySem.boot_len (pa_cons (pe_ix (ix_listK (K := K) rfl) (pv 1) pe_int (fun _ _ => rfl)) pa_nil)) (nomark _)) (pw_and1 (pt_cmpR (op_eqDK (K := K) rfl hr.units) (pe_callTy (call_tupK (K := K) rfl) (by rfl) B.tuple (by decide +kernel) (pa_cons (pe_ix (ix_listK (K := K) rfl) (pe_ix (ix_listK (K := K) rfl) (pv 1) pe_int (fun _ _ => rfl)) (pv 7) (fun _ _ => rfl)) pa_nil)) (pe_callTy (call_tupK (K := K) rfl) (by rfl) B.tuple (by decide +kernel) (pa_cons (pv 5) pa_nil)) (nomark _)))))) (fun _ _ _ _ _ => (pe_op op_add (pv 7) pe_int)))
    (pss_one (ps_set (i := 4) scXLets.nd rfl (Or.inl rfl) (pe_op op_cat (pv 6) (pe_ifExp (pt_cmpR op_in_seq (pe_ix ix_tup (pv 5) pe_int (fun _ _ => rfl)) (pv 3) (by rfl)) (pv 4) (pe_lst pa_nil)))))))
    (pss_one (ps_ret (pe_cmpR op_in_seq (pe_callB call_len_seq (by rfl) T.len PySem.boot_len (pa_cons (pe_ix ix_list (pv 1) pe_int (fun _ _ => rfl)) pa_nil)) (pv 4) (by rfl))))))), ?_⟩
    obtain ⟨a, n, td, xs, ea, h1, h2, h3, h4⟩ := he
    cases ea
    obtain ⟨yb, ys, ey, g1, g2⟩ := hy
    cases ey
    have lxs := Paired.length h4
    refine ⟨fun σ H1 => ∃ fr, σ = [some (.ref c), some (.ref r), some (.ref y), some (.ref fr), none, none, none, none] ∧ Same H H1 ∧ H1 fr = some (.lst ((freeE (ks.map (·.1)) e).map V.str)), ?_, ?_⟩
    · exact ⟨_, rfl, _, rfl, c, r, ks, e, rfl, cu, ⟨r, n, td, xs, rfl, h1, h2, h3, h4⟩, nk, fun l H' s l0 hl => ⟨l, rfl, s, hl⟩⟩
    rintro σ H1 ⟨fr, rfl, s1, hf⟩
    generalize freeE (ks.map (·.1)) e = Fr at *
    refine ⟨(by show 1 ≤ sizeLine; decide), fun P hP => ?_⟩
    refine ⟨_, rfl, y, rfl, for_sq (K := K) (a := y) (xs := ys) (IsSeq.lst g1) (fun i σ H2 => ∃ (v5 v6 : Option V) (P : Addr) (ps : List Nat), σ = [some (.ref c), some (.ref r), some (.ref y), some (.ref fr), some (.ref P), v5, v6, none] ∧ Same H H2 ∧ H2 fr = some (.lst (Fr.map V.str)) ∧ H2 P = some (.lst (ps.map natV)) ∧ ps.length ≤ 2 ^ i ∧ letsL Fr e.told ds = decide (e.told.length ∈ placesL Fr e.told ps (ds.drop i)))
      ⟨none, none, P, [0], rfl, sameUpd s1 hP, (sameUpd (Same.refl _) hP) _ _ hf, upd_same, Nat.le_refl _, rfl⟩ (fun i σ H2 ⟨_, _, _, _, _, s, _⟩ => s) ?_ ?_⟩
    · rintro i x σ H2 hi ⟨v5, v6, P, ps, rfl, s2, hf2, hP2, lps, eq⟩
      obtain ⟨d, hd, t, rfl, ht⟩ := pr_get g2 hi
      have iy : i < ds.length := (List.getElem?_eq_some_iff.mp hd).1
      have l2 : (2 : Nat) ^ i ≤ 2 ^ 12 := Nat.pow_le_pow_right (by decide) (by omega)
      obtain ⟨dn, dk⟩ := okd d (List.mem_of_getElem? hd)
      refine ⟨_, rfl, P, rfl, lc_sq (IsSeq.lst hP2) (Same.refl _) fun D hD => ⟨fun j H3 => Same H2 H3 ∧ H3 D = some (.lst ((((ps.take j).filter fun p => decide (e.told[p]? = some d)).map (· + 1)).map natV)), ⟨sameUpd (Same.refl _) hD, upd_same⟩, fun j H3 q => q.1, ?_, ?_⟩⟩
      · rintro j x H3 hj ⟨s3, hD3⟩
        rw [List.getElem?_map] at hj
        obtain ⟨pl, hpl, rfl⟩ := Option.map_eq_some_iff.mp hj
        have s23 := s2.trans s3
        have st : ((ps.take (j + 1)).filter fun p => decide (e.told[p]? = some d)) = ((ps.take j).filter fun p => decide (e.told[p]? = some d)) ++ if e.told[pl]? = some d then [pl] else [] := by
          rw [take_succ_of hpl, List.filter_append, List.filter_cons, List.filter_nil]
          simp only [decide_eq_true_eq]
        have la : (((ps.take j).filter fun p => decide (e.told[p]? = some d)).map (· + 1)).length ≤ 4096 := by
          rw [List.length_map]
          exact Nat.le_trans (List.length_filter_le _ _) (by rw [List.length_take]; omega)
        refine ⟨rfl, ?_⟩
        refine ⟨_, rfl, _, rfl, r, _, 2, _, rfl, rfl, SqL.of (s23 _ _ h1), rfl, td, xs, rfl, .inl (SqL.of (s23 _ _ h3)), _, _, rfl, rfl, _, rfl, ?_⟩
        refine ite2 (fun c1 => ?_) (fun c1 => ?_)
        · have c1 : pl < e.told.length := by have := of_decide_eq_true c1; omega
          obtain ⟨v0, hv0⟩ : ∃ v0, xs[pl]? = some v0 := ⟨_, List.getElem?_eq_getElem (by omega)⟩
          obtain ⟨d0, hd0, t0, rfl, ht0⟩ := pr_get h4 hv0
          refine ⟨_, rfl, r, _, 2, _, rfl, rfl, SqL.of (s23 _ _ h1), rfl, _, rfl, td, xs, _, _, rfl, rfl, SqL.of (s23 _ _ h3), atI_nat hv0, t0, _, rfl, .inr ⟨SqT.of (s23 _ _ ht0), ?_⟩⟩
          refine ⟨_, rfl, t, _, rfl, .inr ⟨SqT.of (s23 _ _ ht), ?_⟩⟩
          refine ⟨dD d0, dD d, Sx.dp (s23 _ _ ht0), Sx.dp (s23 _ _ ht), shaped_dD (okt d0 (List.mem_of_getElem? hd0)), shaped_dD dk, ?_⟩
          rw [eqv_dD]
          refine ⟨_, rfl, ?_⟩
          rw [hd0] at st
          by_cases ed : d0 = d
          · rw [if_pos (by rw [ed])] at st
            rw [decide_eq_true ed]
            refine iteT ⟨_, rfl, _, _, rfl, rfl, _, hD3, line2 (by rw [List.length_map]; omega), woD hD s3 (Same.refl _), ?_⟩
            rw [upd_same, st, List.map_append, List.map_append]
            rfl
          · rw [if_neg fun z => ed (Option.some.inj z), List.append_nil] at st
            rw [decide_eq_false ed]
            refine iteF ⟨s3, ?_⟩
            rw [st]
            exact hD3
        · have c1 : ¬ pl < e.told.length := fun z => c1 (decide_eq_true (by omega))
          rw [List.getElem?_eq_none (by omega), if_neg (fun z => nomatch z), List.append_nil] at st
          refine iteF ⟨s3, ?_⟩
          rw [st]
          exact hD3
      · rintro H3 ⟨s3, hD3⟩
        rw [List.length_map, List.take_length] at hD3
        generalize ef : ((ps.filter fun p => decide (e.told[p]? = some d)).map (· + 1)) = af at *
        have laf : af.length ≤ ps.length := by
          rw [← ef, List.length_map]
          exact List.length_filter_le _ _
        have s23 := s2.trans s3
        obtain ⟨z, zr, rfl⟩ : ∃ z zr, d = z :: zr := by
          cases d with
          | nil => exact absurd rfl dn
          | cons z zr => exact ⟨z, zr, rfl⟩
        have step : placesL Fr e.told ps (ds.drop i) = placesL Fr e.told (af ++ if z ∈ Fr then ps else []) (ds.drop (i + 1)) := by
          rw [List.drop_eq_getElem_cons iy, (List.getElem?_eq_some_iff.mp hd).2, ← ef]
          rfl
        rw [step] at eq
        refine ⟨_, rfl, _, rfl, t, _, 0, .str z, rfl, rfl, SqT.of (s23 _ _ ht), atI0 _ _, _, rfl, fr, _, rfl, .inl (SqL.of (s3 _ _ hf2)), rfl, flat_strs _, _, rfl, ?_⟩
        rw [if_neg Bool.false_ne_true, inV_strs]
        have big : ps.length ≤ 4096 := by omega
        by_cases hm : z ∈ Fr
        · rw [decide_eq_true hm]
          rw [if_pos hm] at eq
          refine iteT ⟨_, rfl, D, P, _, _, rfl, rfl, hD3, s3 _ _ hP2, Nat.le_of_lt (line2 (by rw [List.length_map, List.length_map]; omega)), fun l hl => ?_⟩
          have sl := sameUpd (o := .lst (af.map natV ++ ps.map natV)) s3 hl
          refine ⟨_, _, l, af ++ ps, rfl, s2.trans sl, sl _ _ hf2, by rw [upd_same, List.map_append], ?_, eq⟩
          rw [List.length_append, Nat.pow_succ]
          omega
        · rw [decide_eq_false hm]
          rw [if_neg hm, List.append_nil] at eq
          refine iteF ⟨Nat.zero_le _, fun u hu => ?_⟩
          have su := sameUpd (o := .lst []) s3 hu
          have hDu := (sameUpd (o := .lst []) (Same.refl _) hu) _ _ hD3
          refine ⟨D, u, _, _, rfl, rfl, hDu, upd_same, Nat.le_of_lt (line2 (by rw [List.length_map]; show af.length + 0 ≤ 2000000; omega)), fun l hl => ?_⟩
          have sl := sameUpd (o := .lst (af.map natV ++ [])) su hl
          refine ⟨_, _, l, af, rfl, s2.trans sl, sl _ _ hf2, by rw [upd_same, List.append_nil], ?_, eq⟩
          rw [Nat.pow_succ]
          omega
    · rintro σ H2 ⟨v5, v6, P, ps, rfl, s2, hf2, hP2, lps, eq⟩
      rw [Paired.length g2, List.drop_length] at eq
      have eq : letsL Fr e.told ds = decide (e.told.length ∈ ps) := eq
      refine ⟨_, rfl, r, _, 2, _, rfl, rfl, SqL.of (s2 _ _ h1), rfl, td, xs, rfl, .inl (SqL.of (s2 _ _ h3)), _, rfl, P, _, rfl, .inl (SqL.of hP2), rfl, natV_flat _, ?_⟩
      rw [if_neg Bool.false_ne_true, show V.int ((xs.length : Nat) : Int) = natV e.told.length by rw [lxs]; rfl, natV_in, ← eq]
      exact k _ s2
end
end Kx

set_option maxHeartbeats 8000000
namespace Kx
open PySem L2
/-! the law's fills -/
def YsA (W : Hp) (b : Addr) (ys : List (List Deed)) : Prop := ∃ xs, W b = some (.lst xs) ∧ Paired (Yr W) xs ys
theorem YsA.keep {H H' : Hp} {b : Addr} {ys : List (List Deed)} (h : YsA H b ys) (s : Same H H') : YsA H' b ys := by
  obtain ⟨xs, h1, h2⟩ := h
  exact ⟨xs, s _ _ h1, pr_imp h2 fun _ _ q => q.keep s⟩
/-- years that the law may be asked -/
def OkL (ys : List (List Deed)) : Prop := ys.length ≤ 100 ∧ ∀ y ∈ ys, y.length ≤ 12 ∧ ∀ d ∈ y, d ≠ [] ∧ ∀ z ∈ d, PyData.strOk z = true
def OkE (es : List En) : Prop := es.length ≤ 100 ∧ ∀ e ∈ es, e.told.length ≤ 12 ∧ ∀ d ∈ e.told, d ≠ [] ∧ ∀ z ∈ d, PyData.strOk z = true
def spXFills : Sp := fun vs H Q _ => ∃ (c b y : Addr) (ks : List (Str × Int)) (es : List En) (wh : Bool) (ys : List (List Deed)), vs = [.ref c, .ref b, .bl wh, .ref y] ∧ CusAt H c ks ∧ ks.length ≤ 1000 ∧ EsA H b es ∧ YsA H y ys ∧ OkE es ∧ OkL ys ∧
  ∀ H', Same H H' → Q (.bl (fillsA (ks.map (·.1)) es wh ys)) H'
abbrev nXFills : List Str := ["_law_custom_here", "_law_entries_here", "_law_whole", "_law_years_here", "_law_ahead", "_law_wrong", "_law_k", "_law_entry_here"]
theorem EntA.ref {H : Hp} {x : V} {e : En} (h : EntA H x e) : ∃ r, x = .ref r := by
  obtain ⟨r, n, d, xs, rfl, _⟩ := h
  exact ⟨r, rfl⟩
theorem Yr.ref {H : Hp} {x : V} {y : List Deed} (h : Yr H x y) : ∃ r, x = .ref r := by
  obtain ⟨r, xs, rfl, _⟩ := h
  exact ⟨r, rfl⟩
section
variable {P : Program} {w : World} {K : PySem.W.Frag} {mg : Str → Option Value} {base : Heap}
theorem scXFills : FnScope nXFills ["_law_custom_here", "_law_entries_here", "_law_whole", "_law_years_here"] (defScope sLFills) := ⟨rfl, rfl, rfl, by decide +kernel, rfl, by decide +kernel, by decide +kernel⟩
theorem ok_xfills {f : Addr} {fd : FuncData} (F : Fun K "_law_fills" "_law_fills" sLFills f fd) (m : mg "_law_fills" = some (.ref f)) (T : Bl mg) (Lt : HasF P w K mg base "_law_lets" 2 ["_law_custom_here", "_law_entry_here", "_law_year"] spXLets) : HasF P w K mg base "_law_fills" 3 ["_law_custom_here", "_law_entries_here", "_law_whole", "_law_years_here"] spXFills := by
  refine ⟨f, fd, ?_, m, F.kp, F.binds fun _ _ _ _ _ _ us hl => match us, hl with | [_, _, _, _], _ => rfl⟩
  obtain ⟨f1, fd1, Lt⟩ := Lt
  refine F.ok scXFills (fun vs H Q E h => ?_) (fun cdv A outer s H vs Q E hr h => ?_)
  · obtain ⟨a, b, c, d, e, g, i, rfl, _⟩ := h
    rfl
  · obtain ⟨c, b, y, ks, es, wh, ys, rfl, cu, nk, he, hy, oke, okl, k⟩ := h
    refine ⟨_, (C8.pss_cut (ps_if (PW.pt (pw_or (pt_cmpR op_lt (pe_callB call_len_seq (by rfl) T.len PySem.boot_len (pa_cons (pv 3) pa_nil)) (pe_callB call_len_seq (by rfl) T.len PySem.boot_len (pa_cons (pv 1) pa_nil)) (nomark _)) (pw_or1 (PW.pt (pw_and (pt_val (pv 2)) (pw_and1 (pt_cmpR op_ne (pe_callB call_len_seq (by rfl) T.len PySem.boot_len (pa_cons (pv 3) pa_nil)) (pe_callB call_len_seq (by rfl) T.len PySem.boot_len (pa_cons (pv 1) pa_nil)) (nomark _)))))))) (pss_one (ps_ret pe_bl)) pss_nil)
    (C8.pss_cut (ps_set (i := 4) scXFills.nd rfl (Or.inr rfl) (pe_op op_sub (pe_callB call_len_seq (by rfl) T.len PySem.boot_len (pa_cons (pv 3) pa_nil)) (pe_callB call_len_seq (by rfl) T.len PySem.boot_len (pa_cons (pv 1) pa_nil))))
    (pss_cons (ps_setLc (i := 5) (own := [("_law_k", 6), ("_law_entry_here", 7)]) (g := gTup K 2 (gCons (gName 6) (gCons (gName 7) gNil))) (te := tVar 6) (by rfl) scXFills.nd rfl rfl (sw_true rfl rfl rfl (by decide +kernel)) (pi_enumB (by rfl) T.enumerate (pa_cons (pv 1) pa_nil)) (blkOk_by (own := [("_law_k", 6), ("_law_entry_here", 7)]) (N := nXFills) (sc := defScope sLFills) (by decide +kernel))
        (fun _ _ _ _ _ => pg_tup rfl (pgs_cons (pg_name (i := 6) scXFills.nd rfl (.inl rfl)) (pgs_cons (pg_name (i := 7) scXFills.nd rfl (.inl rfl)) pgs_nil))) (fun _ _ _ _ _ => pts_one (pt_not (pt_val (pe_call Lt.G hr (by rfl) Lt.m Lt.kp Lt.b .nil pass0 (pa_cons (pv 0) (pa_cons (pv 7) (pa_cons (pe_ix (ix_listK (K := K) rfl) (pv 3) (pe_op op_add (pv 4) (pv 6)) (fun _ _ => rfl)) pa_nil))))))) (fun _ _ _ _ _ => (pv 6)))
    (pss_one (ps_ret (pe_cmpR (op_eqL hr.units) (pv 5) (pe_lst pa_nil) (nomark _))))))), ?_⟩
    obtain ⟨xs, h1, h2⟩ := he
    obtain ⟨zs, g1, g2⟩ := hy
    have lx := Paired.length h2
    have lz := Paired.length g2
    have b1 := oke.1
    have b2 := okl.1
    refine ⟨fun σ H1 => σ = [some (.ref c), some (.ref b), some (.bl wh), some (.ref y), none, none, none, none] ∧ H = H1 ∧ es.length ≤ ys.length ∧ (wh = true → ys.length = es.length), ?_, ?_⟩
    · refine ⟨_, rfl, y, zs, rfl, .inl (SqL.of g1), _, rfl, b, xs, rfl, .inl (SqL.of h1), _, _, rfl, rfl, _, rfl, ?_⟩
      refine ite2 (fun c1 => ?_) (fun c1 => ?_)
      · have c1 := of_decide_eq_true c1
        have e1 : fillsA (ks.map (·.1)) es wh ys = false := by
          unfold fillsA
          rw [if_pos (.inl (by omega))]
        rw [e1] at k
        exact iteT (k H (Same.refl _))
      have c1 : ¬ ((zs.length : Nat) : Int) < (xs.length : Nat) := fun z => c1 (decide_eq_true z)
      refine ⟨_, rfl, wh, rfl, ?_⟩
      cases wh with
      | false => exact iteF (iteF ⟨rfl, rfl, by omega, fun z => nomatch z⟩)
      | true =>
        refine iteT ⟨_, rfl, y, zs, rfl, .inl (SqL.of g1), _, rfl, b, xs, rfl, .inl (SqL.of h1), rfl, _, rfl, ?_⟩
        by_cases c2 : zs.length = xs.length
        · rw [decide_eq_true (by rw [c2])]
          exact iteF ⟨rfl, rfl, by omega, fun _ => by omega⟩
        · rw [decide_eq_false (fun z => c2 (by injection z with z; omega))]
          have e1 : fillsA (ks.map (·.1)) es true ys = false := by
            unfold fillsA
            rw [if_pos (.inr ⟨rfl, by omega⟩)]
          rw [e1] at k
          exact iteT (k H (Same.refl _))
    rintro σ H1 ⟨rfl, rfl, c1, c2⟩
    have e1 : (((zs.length : Nat) : Int) - (xs.length : Nat)) = ((ys.length - es.length : Nat) : Int) := by omega
    refine ⟨fun σ H1 => σ = [some (.ref c), some (.ref b), some (.bl wh), some (.ref y), some (.int ((ys.length - es.length : Nat) : Int)), none, none, none] ∧ H = H1, ?_, ?_⟩
    · exact ⟨_, rfl, y, zs, rfl, .inl (SqL.of g1), _, rfl, b, xs, rfl, .inl (SqL.of h1), _, _, rfl, rfl, by rw [← e1]; rfl, rfl⟩
    rintro σ H1 ⟨rfl, rfl⟩
    refine ⟨_, rfl, b, xs, rfl, lc_filtE (g := gTup K 2 (gCons (gName 6) (gCons (gName 7) gNil))) (fun i => match es[i]? with | some e => (match ys[ys.length - es.length + i]? with | some y => !letsL (freeE (ks.map (·.1)) e) e.told y | none => false) | none => false) (IsSeq.lst h1) (Same.refl _) (by omega) ?_ ?_⟩
    · intro D i x H3 t kt kf hi hD s3 ht kt' kf'
      obtain ⟨e, hei, he'⟩ := pr_get h2 hi
      have li := (List.getElem?_eq_some_iff.mp hi).1
      obtain ⟨v, hv⟩ : ∃ v, zs[ys.length - es.length + i]? = some v := ⟨_, List.getElem?_eq_getElem (by omega)⟩
      obtain ⟨yy, hyy, hY⟩ := pr_get g2 hv
      rw [hei] at kt' kf'
      dsimp only at kt' kf'
      rw [hyy] at kt' kf'
      dsimp only at kt' kf'
      have sT : Same H3 (upd H3 t (.tup [.int (i : Nat), x])) := sameUpd (Same.refl _) ht
      have tt' : (upd H3 t (.tup [.int (i : Nat), x])) t = some (.tup [.int (i : Nat), x]) := upd_same
      have s4 := s3.trans sT
      generalize upd H3 t (.tup [.int (i : Nat), x]) = H5 at sT tt' s4 kt' kf' ⊢
      obtain ⟨r, rfl⟩ := he'.ref
      obtain ⟨y', rfl⟩ := hY.ref
      obtain ⟨te, oe⟩ := oke.2 e (List.mem_of_getElem? hei)
      obtain ⟨ty, oy⟩ := okl.2 yy (List.mem_of_getElem? hyy)
      refine ⟨t, _, rfl, SqT.of tt', rfl, _, _, rfl, _, _, rfl, rfl, rfl, ?_⟩
      have e2 : (((ys.length - es.length : Nat) : Int) + (i : Nat)) = ((ys.length - es.length + i : Nat) : Int) := by omega
      refine ⟨_, rfl, _, rfl, _, rfl, _, rfl, _, rfl, _, _, rfl, rfl, ?_⟩
      refine ⟨y, zs, _, _, rfl, rfl, SqL.of (s4 _ _ g1), (by rw [e2]; exact atI_nat hv), c, r, y', ks, e, yy, rfl, cu.keep s4, nk, he'.keep s4, hY.keep s4, ty, by omega, oy, fun d hd => (oe d hd).2, fun H6 s6 => ?_⟩
      refine ⟨_, rfl, ?_⟩
      cases hl : letsL (freeE (ks.map (·.1)) e) e.told yy with
      | true => 
        rw [hl] at kf'
        exact iteF (kf' rfl _ s6)
      | false =>
        rw [hl] at kt'
        exact iteT ⟨_, rfl, kt' rfl _ _ (.inl rfl) s6⟩
    · intro D acc H3 hD s3 hd3 ly ok ey
      refine ⟨_, rfl, Nat.zero_le _, fun l hl => eqL_nil (K := K) (by rw [upd_ne (ne_of_none hd3 hl)]; exact hd3) upd_same ?_⟩
      have s4 := sameUpd (o := .lst []) s3 hl
      have k := k _ s4
      have ef : fillsA (ks.map (·.1)) es wh ys = acc.isEmpty := by
        rw [Bool.eq_iff_iff, fillsA_iff, List.isEmpty_iff, ey]
        refine ⟨fun ⟨_, _, q⟩ i hi => ?_, fun q => ⟨c1, c2, fun i e y he hy => ?_⟩⟩
        · cases he : es[i]? with
          | none => rfl
          | some e =>
            dsimp only
            cases hy : ys[ys.length - es.length + i]? with
            | none => rfl
            | some y =>
              dsimp only
              rw [q i e y he hy]
              rfl
        · have q := q i (by rw [lx]; exact (List.getElem?_eq_some_iff.mp he).1)
          rw [he] at q
          dsimp only at q
          rw [hy] at q
          dsimp only at q
          cases hl : letsL (freeE (ks.map (·.1)) e) e.told y with
          | true => rfl
          | false => rw [hl] at q; cases q
      rw [ef] at k
      exact k
end
end Kx

set_option maxHeartbeats 8000000
namespace Kx
open PySem L2
/-! years made from an entry -/
def spXPutIn : Sp := fun vs H Q _ => ∃ (p q c a r : Addr) (ks : List (Str × Int)) (ps : List Str) (e : En), vs = [.ref p, .ref c, .ref r, .ref a, .int 3] ∧ Mt H p q c a ks ps ∧ EntA (wo p H) (.ref r) e ∧ e.told.length ≤ 3 ∧ (∀ d ∈ e.told, Made ks ps d) ∧
  ∀ (b : Addr) (xs : List V) (ds : List Deed) (H' : Hp), Und H H' p q b xs → Paired (Ss .tup (hid b p H')) xs ds → ds.length ≤ 6 → (∀ d ∈ ds, Made ks ps d) → Q (.ref b) H'
abbrev nXPutIn : List Str := ["_law_hand_here", "_law_custom_here", "_law_entry_here", "_law_persons_here", "_law_most", "_law_deed_here", "_law_year", "_law_free_here", "_law_kinds", "_law_k", "_law_kind", "_law_j", "_law_row"]
section
variable {P : Program} {w : World} {K : PySem.W.Frag} {mg : Str → Option Value} {base : Heap}
theorem scXPutIn : FnScope nXPutIn ["_law_hand_here", "_law_custom_here", "_law_entry_here", "_law_persons_here", "_law_most"] (defScope sLPutIn) := ⟨rfl, rfl, rfl, by decide +kernel, rfl, by decide +kernel, by decide +kernel⟩
theorem ok_xputin {f : Addr} {fd : FuncData} (F : Fun K "_law_put_in" "_law_put_in" sLPutIn f fd) (m : mg "_law_put_in" = some (.ref f)) (T : Bl mg) (B : Bm mg) (D : HasF P w K mg base "_law_draw" 2 ["_law_hand_here", "_law_many"] spDraw) (O : HasF P w K mg base "_law_one" 3 ["_law_hand_here", "_law_rows"] spOne)
    (Fr : HasF P w K mg base "_law_free" 1 ["_law_custom_here", "_law_entry_here"] spXFree) : HasF P w K mg base "_law_put_in" 4 ["_law_hand_here", "_law_custom_here", "_law_entry_here", "_law_persons_here", "_law_most"] spXPutIn := by
  refine ⟨f, fd, ?_, m, F.kp, F.binds fun _ _ _ _ _ _ us hl => match us, hl with | [_, _, _, _, _], _ => rfl⟩
  obtain ⟨f1, fd1, D⟩ := D; obtain ⟨f2, fd2, O⟩ := O; obtain ⟨f3, fd3, Fr⟩ := Fr
  refine F.ok scXPutIn (fun vs H Q E h => ?_) (fun cdv A outer s H vs Q E hr h => ?_)
  · obtain ⟨a, b, c, d, e, g, i, j, rfl, _⟩ := h
    rfl
  · obtain ⟨p, q, c, a, r, ks, ps, e, rfl, M, he, e3, mde, k⟩ := h
    have hr1 : Room 1 _ := hr.mono (by decide)
    have hr2 : Room 2 _ := hr.mono (by decide)
    refine ⟨_, (C8.pss_cut (ps_setLc (i := 6) (own := [("_law_deed_here", 5)]) (g := gName 5) (tt := tYes) (by rfl) scXPutIn.nd rfl rfl (sw_true rfl rfl rfl (by decide +kernel)) (pi_seq (pe_ix ix_list (pv 2) pe_int (fun _ _ => rfl))) (blkOk_by (own := [("_law_deed_here", 5)]) (N := nXPutIn) (sc := defScope sLPutIn) (by decide +kernel))
          (fun _ _ _ _ _ => pg_name (i := 5) scXPutIn.nd rfl (.inl rfl)) (fun _ _ _ _ _ => pts_nil) (fun _ _ _ _ _ => (pe_callTy (call_tupK (K := K) rfl) (by rfl) B.tuple (by decide +kernel) (pa_cons (pv 5) pa_nil))))
    (C8.pss_cut (ps_set (i := 7) scXPutIn.nd rfl (Or.inr rfl) (pe_call Fr.G hr1 (by rfl) Fr.m Fr.kp Fr.b .nil pass0 (pa_cons (pv 1) (pa_cons (pv 2) pa_nil))))
    (C8.pss_cut (ps_setLc (i := 8) (own := [("_law_row", 12)]) (g := gName 12) (by rfl) scXPutIn.nd rfl rfl (sw_true rfl rfl rfl (by decide +kernel)) (pi_seq (pe_ix ix_list (pv 1) pe_int (fun _ _ => rfl))) (blkOk_by (own := [("_law_row", 12)]) (N := nXPutIn) (sc := defScope sLPutIn) (by decide +kernel))
          (fun _ _ _ _ _ => pg_name (i := 12) scXPutIn.nd rfl (.inl rfl)) (fun _ _ _ _ _ => pts_one (t := tTest (tOp (rIn K false) (tOp (rIxT K) (tVar 12) (tC (.int 0))) (tVar 7))) (pt_cmpR (X := _) (op_inK rfl) (pe_ix (ix_tupK (K := K) rfl) (pv 12) pe_int (fun _ _ => rfl)) (pv 7) (by rfl))) (fun _ _ _ _ _ => (pv 12)))
    (C8.pss_cut (ps_if (pt_cmpR (op_neL hr.units) (pv 8) (pe_lst pa_nil) (nomark _)) (pss_one (ps_for PassesOwn.never rfl (pi_range1 (by rfl) T.range (pa_cons (pe_call D.G hr2 (by rfl) D.m D.kp D.b .nil pass0 (pa_cons (pv 0) (pa_cons (pe_op op_add (pv 4) pe_int) pa_nil))) pa_nil)) (pg_name (i := 9) scXPutIn.nd rfl (.inl rfl))
        (C8.pss_cut (ps_set (i := 10) scXPutIn.nd rfl (Or.inl rfl) (pe_call O.G hr (by rfl) O.m O.kp O.b .nil pass0 (pa_cons (pv 0) (pa_cons (pv 8) pa_nil))))
    (pss_cons (ps_set (i := 5) scXPutIn.nd rfl (Or.inl rfl) (pe_lst (pa_cons (pe_ix ix_tup (pv 10) pe_int (fun _ _ => rfl)) pa_nil)))
    (C8.pss_cut (ps_for PassesOwn.never rfl (pi_range1 (by rfl) T.range (pa_cons (pe_ix ix_tup (pv 10) pe_int (fun _ _ => rfl)) pa_nil)) (pg_name (i := 11) scXPutIn.nd rfl (.inl rfl))
            (pss_one (ps_expr (pe_bm PySem.F.plainAttrs_list PySem.F.slot_list_append PySem.F.type_list_append mt_append (pv 5) (pa_cons (pe_call O.G hr (by rfl) O.m O.kp O.b .nil pass0 (pa_cons (pv 0) (pa_cons (pv 3) pa_nil))) pa_nil)))))
    (pss_one (ps_expr (pe_bm PySem.F.plainAttrs_list PySem.F.slot_list_insert PySem.F.type_list_insert mt_insert (pv 6) (pa_cons (pe_call D.G hr2 (by rfl) D.m D.kp D.b .nil pass0 (pa_cons (pv 0) (pa_cons (pe_op op_add (pe_callB call_len_seq (by rfl) T.len PySem.boot_len (pa_cons (pv 6) pa_nil)) pe_int) pa_nil))) (pa_cons (pe_callTy call_tuple_of (by rfl) B.tuple (by decide +kernel) (pa_cons (pv 5) pa_nil)) pa_nil)))))))))) pss_nil)
    (pss_one (ps_ret (pv 6))))))), ?_⟩
    have gk := M.gk
    obtain ⟨cb, rest, cxs, c1, c2, c3⟩ := M.cu.ex
    obtain ⟨r', n, td, txs, er, h1, h2, h3, h4⟩ := he
    cases er
    have lt := Paired.length h4
    refine ⟨fun σ H1 => ∃ (b : Addr) (xs : List V), σ = [some (.ref p), some (.ref c), some (.ref r), some (.ref a), some (.int 3), none, some (.ref b), none, none, none, none, none, none] ∧ Und H H1 p q b xs ∧ Same H H1 ∧ Paired (Ss .tup (hid b p H1)) xs e.told, ?_, ?_⟩
    · refine ⟨_, rfl, r, _, 2, _, rfl, rfl, SqL.of (wo_get h1).1, rfl, td, rfl, lc_sq (IsSeq.lst (wo_get h3).1) (Same.refl _) fun L hL => ⟨fun i H3 => Same H H3 ∧ H3 L = some (.lst (txs.take i)), ⟨sameUpd (Same.refl _) hL, upd_same⟩, fun i H3 z => z.1, ?_, ?_⟩⟩
      · rintro i x H3 hi ⟨s3, hd⟩
        have il := (List.getElem?_eq_some_iff.mp hi).1
        obtain ⟨d, hd', t, rfl, ht⟩ := pr_get h4 hi
        refine ⟨rfl, ?_⟩
        unfold tYes
        dsimp only
        rw [if_pos rfl]
        refine ⟨_, rfl, t, _, rfl, .inr ⟨SqT.of (s3 _ _ (wo_get ht).1), _, hd, small1000 (by rw [List.length_take]; omega), woD hL s3 (Same.refl _), ?_⟩⟩
        rw [upd_same, take_succ_of hi]
      · rintro H3 ⟨s3, hd⟩
        rw [List.take_length] at hd
        obtain ⟨L0, Lp, Lq⟩ := (Dr.refl M.hp).free hL
        have d3 : Dr H H3 p q := (Dr.refl M.hp).ofS s3
        have u3 : Und H H3 p q L txs := ⟨d3, L0, Lp, Lq, hd⟩
        exact ⟨L, txs, rfl, u3, s3, pr_imp h4 fun _ _ z => z.keep u3.outS⟩
    rintro σ H1 ⟨b, xs, rfl, u1, s1, px1⟩
    refine ⟨fun σ H2 => ∃ fr : Addr, σ = [some (.ref p), some (.ref c), some (.ref r), some (.ref a), some (.int 3), none, some (.ref b), some (.ref fr), none, none, none, none, none] ∧ Und H H2 p q b xs ∧ Same H1 H2 ∧ Paired (Ss .tup (hid b p H2)) xs e.told ∧ H2 fr = some (.lst ((freeE (ks.map (·.1)) e).map V.str)), ?_, ?_⟩
    · refine ⟨_, rfl, _, rfl, c, r, ks, e, rfl, (M.cu.keep wo_same).keep s1, ⟨r, n, td, txs, rfl, s1 _ _ (wo_get h1).1, s1 _ _ (wo_get h2).1, s1 _ _ (wo_get h3).1, pr_imp h4 fun _ _ z => (z.keep wo_same).keep s1⟩, by have := gk.hi; omega, fun l H2 s2 l0 hl => ?_⟩
      have d2 : Dr H1 H2 p q := (Dr.refl u1.d.hp).ofS s2
      exact ⟨l, rfl, u1.dr d2, s2, pr_imp px1 fun _ _ z => z.keep (u1.kh d2), hl⟩
    rintro σ H2 ⟨fr, rfl, u2, s12, px2, hf⟩
    generalize freeE (ks.map (·.1)) e = Fs at *
    refine ⟨fun σ H3 => ∃ (kk : Addr) (kx : List V) (ks' : List (Str × Int)), σ = [some (.ref p), some (.ref c), some (.ref r), some (.ref a), some (.int 3), none, some (.ref b), some (.ref fr), some (.ref kk), none, none, none, none] ∧ Und H H3 p q b xs ∧ Paired (Ss .tup (hid b p H3)) xs e.told ∧ hid b p H3 kk = some (.lst kx) ∧ Paired (PairT (hid b p H3)) kx ks' ∧ (∀ z ∈ ks', z ∈ ks) ∧ ks'.length ≤ 6, ?_, ?_⟩
    · have s2 := s1.trans s12
      refine ⟨_, rfl, c, _, 0, _, rfl, rfl, SqL.of (s2 _ _ (wo_get c1).1), atI0 _ _, cb, rfl, lc_sq (IsSeq.lst (s2 _ _ (wo_get c2).1)) (Same.refl _) fun L hL => ⟨fun i H3 => Same H2 H3 ∧ ∃ (kx : List V) (ks' : List (Str × Int)), H3 L = some (.lst kx) ∧ Paired (PairT (wo p H)) kx ks' ∧ (∀ z ∈ ks', z ∈ ks) ∧ ks'.length ≤ i, ⟨sameUpd (Same.refl _) hL, [], [], upd_same, .nil, fun z hz => (nomatch hz), Nat.le_refl _⟩, fun i H3 z => z.1, ?_, ?_⟩⟩
      · rintro i x H3 hi ⟨s3, kx, ks', hd, pk, sub, lk⟩
        obtain ⟨z, hz, t, rfl, ht⟩ := pr_get c3 hi
        have s23 := s2.trans s3
        have lki := (List.getElem?_eq_some_iff.mp hz).1
        have := gk.hi
        refine ⟨rfl, ?_⟩
        refine ⟨_, rfl, t, _, 0, .str z.1, rfl, rfl, SqT.of (s23 _ _ (wo_get ht).1), rfl, _, rfl, fr, _, rfl, .inl (SqL.of (s3 _ _ hf)), rfl, flat_strs _, _, rfl, ?_⟩
        rw [if_neg Bool.false_ne_true, inV_strs]
        by_cases hm : z.1 ∈ Fs
        · rw [decide_eq_true hm]
          refine iteT ⟨_, rfl, _, hd, small1000 (by rw [Paired.length pk]; omega), woD hL s3 (Same.refl _), kx ++ [.ref t], ks' ++ [z], upd_same, pr_app pk (.cons ⟨t, rfl, ht⟩ .nil), fun y hy => ?_, by simp; omega⟩
          rcases List.mem_append.mp hy with h | h
          · exact sub y h
          · rw [List.mem_singleton.mp h]
            exact List.mem_of_getElem? hz
        · rw [decide_eq_false hm]
          exact iteF ⟨s3, kx, ks', hd, pk, sub, by omega⟩
      · rintro H3 ⟨s3, kx, ks', hd, pk, sub, lk⟩
        have d3 : Dr H2 H3 p q := (Dr.refl u2.d.hp).ofS s3
        have u3 := u2.dr d3
        obtain ⟨L0, Lp, Lq⟩ := (Dr.refl u2.d.hp).free hL
        have Lb : L ≠ b := fun z => by rw [z, u2.at_] at L0; cases L0
        rw [Paired.length c3] at lk
        exact ⟨L, kx, ks', rfl, u3, pr_imp px2 fun _ _ z => z.keep (u2.kh d3), hid_at hd Lb Lp, pr_imp pk fun _ _ z => z.keep u3.outS, sub, by have := gk.hi; omega⟩
    rintro σ H3 ⟨kk, kx, ks', rfl, u3, px3, hk3, pk3, sub, lk⟩
    refine ⟨fun σ H4 => ∃ (xs : List V) (ds : List Deed), σ[6]? = some (some (.ref b)) ∧ Und H H4 p q b xs ∧ Paired (Ss .tup (hid b p H4)) xs ds ∧ ds.length ≤ 6 ∧ ∀ d ∈ ds, Made ks ps d, ?_, ?_⟩
    · refine ⟨_, rfl, Nat.zero_le _, fun l hl => ne_nil (K := K) (by rw [upd_ne (ne_of_none (hid_get hk3).1 hl)]; exact (hid_get hk3).1) (fun z hz => ?_) l upd_same ⟨_, rfl, ?_⟩⟩
      · obtain ⟨i, hi⟩ := List.mem_iff_getElem?.mp hz
        obtain ⟨y, _, t, rfl, _⟩ := pr_get pk3 hi
        exact .inr ⟨t, rfl⟩
      obtain ⟨u4, _, _, _, s4⟩ := u3.new (o := .lst []) hl
      generalize upd H3 l (.lst []) = H4 at u4 s4 ⊢
      have px4 : Paired (Ss .tup (hid b p H4)) xs e.told := pr_imp px3 fun _ _ z => z.keep s4
      have hk4 := s4 _ _ hk3
      have pk4 : Paired (PairT (hid b p H4)) kx ks' := pr_imp pk3 fun _ _ z => z.keep s4
      cases kx with
      | nil => exact iteF ⟨xs, e.told, rfl, u4, px4, by omega, mde⟩
      | cons kx0 kxr =>
      refine iteT ?_
      have kpos : 0 < (kx0 :: kxr).length := Nat.succ_pos _
      generalize kx0 :: kxr = kx at *
      refine ⟨_, rfl, _, rfl, _, _, rfl, rfl, p, q, 4, rfl, u4.d.hp, by decide, by decide, fun z H5 z0 z1 hp5 k5 => ?_⟩
      have d5 : Dr H4 H5 p q := ⟨hp5, k5⟩
      have u5 := u4.dr d5
      refine ⟨_, rfl, by omega, by omega, for_range (n := z.toNat) (fun i σ H6 => ∃ (xs : List V) (ds : List Deed) (v5 v9 v10 v11 : Option V), σ = [some (.ref p), some (.ref c), some (.ref r), some (.ref a), some (.int 3), v5, some (.ref b), some (.ref fr), some (.ref kk), v9, v10, v11, none] ∧ Und H H6 p q b xs ∧ Paired (Ss .tup (hid b p H6)) xs ds ∧ ds.length ≤ 3 + i ∧ (∀ d ∈ ds, Made ks ps d) ∧ hid b p H6 kk = some (.lst kx) ∧ Paired (PairT (hid b p H6)) kx ks')
        ⟨xs, e.told, none, none, none, none, rfl, u5, pr_imp px4 fun _ _ z => z.keep (u4.kh d5), by omega, mde, u4.kh d5 _ _ hk4, pr_imp pk4 fun _ _ z => z.keep (u4.kh d5)⟩ ?_ ?_⟩
      · rintro i σ H6 hi ⟨xs, ds, v5, v9, v10, v11, rfl, u6, px6, dl, md, hk6, pk6⟩
        obtain ⟨hk6', kb, kp⟩ := hid_get hk6
        refine ⟨fun σ H7 => ∃ (t : Addr) (z : Str × Int), σ = [some (.ref p), some (.ref c), some (.ref r), some (.ref a), some (.int 3), v5, some (.ref b), some (.ref fr), some (.ref kk), some (.int ((0 : Int) + (i : Nat))), some (.ref t), v11, none] ∧ Dr H6 H7 p q ∧ z ∈ ks ∧ H7 t = some (.tup [.str z.1, .int z.2]) ∧ hid b p H7 t = some (.tup [.str z.1, .int z.2]), ?_, ?_⟩
        · refine ⟨_, rfl, _, rfl, p, q, kk, kx, rfl, u6.d.hp, hk6', kp, kpos, by rw [Paired.length pk6]; omega, fun x H7 hx hp7 k7 => ?_⟩
          obtain ⟨j, hj⟩ := List.mem_iff_getElem?.mp hx
          obtain ⟨z, hz, t, rfl, ht⟩ := pr_get pk6 hj
          have d7 : Dr H6 H7 p q := ⟨hp7, k7⟩
          have ht7 := u6.kh d7 _ _ ht
          exact ⟨t, z, rfl, d7, sub z (List.mem_of_getElem? hz), (hid_get ht7).1, ht7⟩
        rintro σ H7 ⟨t, z, rfl, d7, mz, ht7, ht7'⟩
        have u7 := u6.dr d7
        obtain ⟨lab, _, a0, a2⟩ := gk.each z mz
        refine ⟨_, rfl, t, _, 0, .str z.1, rfl, rfl, SqT.of ht7, rfl, (by show 1 ≤ sizeLine; decide), fun l hl => ?_⟩
        obtain ⟨l0, lp, lq⟩ := (Dr.refl u7.d.hp).free hl
        have lb : l ≠ b := fun z => by rw [z, u7.at_] at l0; cases l0
        have d8 : Dr H7 (upd H7 l (.lst [.str z.1])) p q := (Dr.refl u7.d.hp).new hl
        refine ⟨fun σ H9 => ∃ (zs : List Str) (v9 v11 : Option V), σ = [some (.ref p), some (.ref c), some (.ref r), some (.ref a), some (.int 3), some (.ref l), some (.ref b), some (.ref fr), some (.ref kk), v9, some (.ref t), v11, none] ∧ Made ks ps zs ∧ Dr H7 H9 p q ∧ H9 l = some (.lst (zs.map V.str)), ?_, ?_⟩
        · refine ⟨_, rfl, t, _, 1, .int z.2, rfl, rfl, SqT.of (d8.kp _ _ ht7 (hid_get ht7').2.2), rfl, _, rfl, by omega, by omega, for_range (n := z.2.toNat) (fun j σ H9 => ∃ (qs : List Str) (v9 v11 : Option V), σ = [some (.ref p), some (.ref c), some (.ref r), some (.ref a), some (.int 3), some (.ref l), some (.ref b), some (.ref fr), some (.ref kk), v9, some (.ref t), v11, none] ∧ qs.length = j ∧ (∀ y ∈ qs, y ∈ ps) ∧ Dr H7 H9 p q ∧ H9 l = some (.lst ((z.1 :: qs).map V.str)))
            ⟨[], _, _, rfl, rfl, fun y hy => (nomatch hy), d8, upd_same⟩ ?_ ?_⟩
          · rintro j σ H9 hj ⟨qs, v9, v11, rfl, ql, qm, d9, hl9⟩
            have M9 := M.keep ((u7.d).trans d9)
            refine ⟨_, rfl, .inl ⟨rfl, _, SqL.of hl9⟩, _, rfl, _, rfl, p, q, a, _, rfl, d9.hp, (wo_get M9.hc).1, (wo_get M9.hc).2, (by rw [List.length_map]; exact List.length_pos_iff.mpr M.ne), (by rw [List.length_map]; have := M.few; omega), fun x HA hxA hpA kA => ?_⟩
            obtain ⟨y, hy, rfl⟩ := List.mem_map.mp hxA
            have hlA := kA _ _ hl9 lp
            have dA := d9.draw kA hpA
            refine ⟨l, _, _, rfl, rfl, hlA, small1000 (by rw [List.length_map, List.length_cons]; omega), qs ++ [y], _, _, rfl, by simp [ql], fun z hz => (List.mem_append.mp hz).elim (qm z) fun e => by rw [List.mem_singleton.mp e]; exact hy, dA.put l0 lp lq, ?_⟩
            rw [upd_same]
            simp
          · rintro σ H9 ⟨qs, v9, v11, rfl, ql, qm, d9, hl9⟩
            exact ⟨z.1 :: qs, _, _, rfl, ⟨z, mz, qs, rfl, by omega, qm⟩, d9, hl9⟩
        rintro σ H9 ⟨zs, v9', v11', rfl, mzs, d9, hl9⟩
        have u9 := u7.dr d9
        have lxs := Paired.length px6
        refine ⟨_, rfl, .inl ⟨rfl, _, SqL.of u9.at_⟩, _, rfl, _, rfl, b, xs, rfl, .inl (SqL.of u9.at_), _, _, rfl, rfl, p, q, _, rfl, u9.d.hp, by omega, Nat.lt_of_le_of_lt (show (((xs.length : Nat) : Int) + 1).natAbs ≤ 20 by omega) (by decide), fun y HA y0 y1 hpA kA => ?_⟩
        have dA : Dr H9 HA p q := ⟨hpA, kA⟩
        have uA := u9.dr dA
        have hlA := kA _ _ hl9 lp
        refine ⟨_, rfl, l, _, rfl, .inl ⟨SqL.of hlA, fun u hu => ?_⟩⟩
        obtain ⟨uB, ub, up, htB, sB⟩ := uA.new (o := .tup (zs.map V.str)) hu
        refine ⟨b, xs, y, .ref u, rfl, rfl, uB.at_, small1000 (by omega), y0, Int.lt_of_lt_of_le y1 (show ((xs.length : Nat) : Int) + 1 ≤ 2 ^ 63 by omega), ?_⟩
        have s6B := (u6.kh d7).trans ((u7.kh d9).trans ((u9.kh dA).trans sB))
        have sC : Same (hid b p H6) (hid b p (upd (upd HA u (.tup (zs.map V.str))) b (.lst (xs.take y.toNat ++ [.ref u] ++ xs.drop y.toNat)))) := s6B.trans hid_b
        refine ⟨_, ds.take y.toNat ++ [zs] ++ ds.drop y.toNat, _, _, _, _, rfl, uB.set, pr_app (pr_app (pr_imp (pr_take px6 _) fun _ _ z => z.keep sC) (.cons ⟨u, rfl, hid_b _ _ htB⟩ .nil)) (pr_imp (pr_drop px6 _) fun _ _ z => z.keep sC), ?_, fun d hd => ?_, sC _ _ hk6, pr_imp pk6 fun _ _ z => z.keep sC⟩
        · simp only [List.length_append, List.length_take, List.length_drop, List.length_cons, List.length_nil]
          omega
        · rcases List.mem_append.mp hd with hd | hd
          · rcases List.mem_append.mp hd with hd | hd
            · exact md d (List.mem_of_mem_take hd)
            · rw [List.mem_singleton.mp hd]
              exact mzs
          · exact md d (List.mem_of_mem_drop hd)
      · rintro σ H6 ⟨xs, ds, v5, v9, v10, v11, rfl, u6, px6, dl, md, hk6, pk6⟩
        exact ⟨xs, ds, rfl, u6, px6, by omega, md⟩
    rintro σ H4 ⟨xs, ds, e6, u4, px4, dl, md⟩
    exact ⟨_, e6, k b xs ds H4 u4 px4 dl md⟩
end
end Kx

set_option maxHeartbeats 8000000
namespace Kx
open PySem L2
/-! histories made from entries; entries made -/
def spXFilling : Sp := fun vs H Q _ => ∃ (p q c a b : Addr) (ks : List (Str × Int)) (ps : List Str) (es : List En) (wh : Bool), vs = [.ref p, .ref c, .ref b, .bl wh, .ref a] ∧ Mt H p q c a ks ps ∧ EsA (wo p H) b es ∧ es.length ≤ 4 ∧ (∀ e ∈ es, GoodEn ks ps e) ∧
  ∀ (l : Addr) (xs : List V) (ys : List (List Deed)) (H' : Hp), Und H H' p q l xs → Paired (Yr (hid l p H')) xs ys → ys.length ≤ 7 → (∀ y ∈ ys, y.length ≤ 6 ∧ ∀ d ∈ y, Made ks ps d) → Q (.ref l) H'
abbrev nXFilling : List Str := ["_law_hand_here", "_law_custom_here", "_law_entries_here", "_law_whole", "_law_persons_here", "_law_years_here", "_law_entry_here"]
structure EnM (P : Program) (w : World) (K : PySem.W.Frag) (mg : Str → Option Value) (base : Heap) (C : Addr) (x : Str) (k : Nat) (ps : List Str) (sp : Sp) (f : Addr) (fd : FuncData) : Prop where
  M : Mk K C f
  G : FnOk P w K mg base CX0 k f fd ps sp
  m : mg x = some (.ref C)
  b : Binds K fd ps []
def spXMade (Cs : Ew → Addr) : Sp := fun vs H Q _ => ∃ (r : Addr) (ks : List (Str × Int)) (ps : List Str) (e : En), vs = [.ref r] ∧ EntA H (.ref r) e ∧ GoodEn ks ps e ∧ GoodK ks ∧ ∀ (t : Addr) (H' : Hp), Same H H' → EnAt Cs H' t e → Q (.ref t) H'
theorem word_kh (k : Ew) : inV (.str (wordE k)) [.str "known", .str "holding"] = decide (k = .known ∨ k = .holding) := by cases k <;> decide +kernel
theorem word_u (k : Ew) : decide (V.str (wordE k) = .str "unknown") = decide (k = .unknown) := by cases k <;> decide +kernel
theorem word_w (k : Ew) : decide (V.str (wordE k) = .str "without") = decide (k = .without) := by cases k <;> decide +kernel
theorem mk_same {H : Hp} {x dx : Addr} {o o' : HO} (hx : H x = none) (hdx : H dx = none) : Same H (upd (upd H dx o) x o') := fun b u e => by
  rw [upd_ne (fun z => by rw [z, hx] at e; cases e), upd_ne (fun z => by rw [z, hdx] at e; cases e)]
  exact e
theorem But.same {H H2 H' : Hp} {x : Addr} (b : But x H2 H') (s : Same H H2) (hx : H x = none) : Same H H' := fun c o e => b c o (s c o e) fun z => by rw [z, hx] at e; cases e
theorem GoodEn.lab {ks : List (Str × Int)} {ps : List Str} {e : En} (g : GoodEn ks ps e) (gk : GoodK ks) : ∀ n ∈ e.names, isLab n = true := fun n hn => by
  obtain ⟨r, hr, e⟩ := List.mem_map.mp (g.fit.nm n hn)
  rw [← e]
  exact (gk.each r hr).1
theorem GoodEn.few1000 {ks : List (Str × Int)} {ps : List Str} {e : En} (g : GoodEn ks ps e) (gk : GoodK ks) : e.names.length ≤ 1000 := by
  have := nd_len g.dis g.fit.nm
  have h := gk.hi
  rw [List.length_map] at this
  omega
section
variable {P : Program} {w : World} {K : PySem.W.Frag} {mg : Str → Option Value} {base : Heap}
theorem scXFilling : FnScope nXFilling ["_law_hand_here", "_law_custom_here", "_law_entries_here", "_law_whole", "_law_persons_here"] (defScope sLFilling) := ⟨rfl, rfl, rfl, by decide +kernel, rfl, by decide +kernel, by decide +kernel⟩
theorem ok_xfilling {f : Addr} {fd : FuncData} (F : Fun K "_law_filling" "_law_filling" sLFilling f fd) (m : mg "_law_filling" = some (.ref f)) (Ye : HasF P w K mg base "_law_years" 5 ["_law_hand_here", "_law_custom_here", "_law_persons_here", "_law_most", "_law_deeds"] spXYears)
    (Pu : HasF P w K mg base "_law_put_in" 4 ["_law_hand_here", "_law_custom_here", "_law_entry_here", "_law_persons_here", "_law_most"] spXPutIn) : HasF P w K mg base "_law_filling" 6 ["_law_hand_here", "_law_custom_here", "_law_entries_here", "_law_whole", "_law_persons_here"] spXFilling := by
  refine ⟨f, fd, ?_, m, F.kp, F.binds fun _ _ _ _ _ _ us hl => match us, hl with | [_, _, _, _, _], _ => rfl⟩
  obtain ⟨f1, fd1, Ye⟩ := Ye; obtain ⟨f2, fd2, Pu⟩ := Pu
  refine F.ok scXFilling (fun vs H Q E h => ?_) (fun cdv A outer s H vs Q E hr h => ?_)
  · obtain ⟨a, b, c, d, e, g, i, j, l, rfl, _⟩ := h
    rfl
  · obtain ⟨p, q, c, a, b, ks, ps, es, wh, rfl, M, he, e4, ge, k⟩ := h
    have hr4 : Room 4 _ := hr.mono (by decide)
    obtain ⟨bxs, h1, h2⟩ := he
    refine ⟨_, (pss_cons (ps_set (i := 5) scXFilling.nd rfl (Or.inl rfl) (pe_lst pa_nil))
    (C8.pss_cut (ps_if (pt_not (pt_val (pv 3))) (pss_one (ps_set (i := 5) scXFilling.nd rfl (Or.inl rfl) (pe_call Ye.G hr (by rfl) Ye.m Ye.kp Ye.b .nil pass0 (pa_cons (pv 0) (pa_cons (pv 1) (pa_cons (pv 4) (pa_cons pe_int (pa_cons pe_int pa_nil)))))))) pss_nil)
    (pss_cons (ps_for PassesOwn.never rfl (pi_seq (pv 2)) (pg_name (i := 6) scXFilling.nd rfl (.inl rfl))
        (pss_one (ps_expr (pe_bm PySem.F.plainAttrs_list PySem.F.slot_list_append PySem.F.type_list_append mt_append (pv 5) (pa_cons (pe_call Pu.G hr4 (by rfl) Pu.m Pu.kp Pu.b .nil pass0 (pa_cons (pv 0) (pa_cons (pv 1) (pa_cons (pv 6) (pa_cons (pv 4) (pa_cons pe_int pa_nil)))))) pa_nil)))))
    (pss_one (ps_ret (pv 5)))))), ?_⟩
    refine ⟨Nat.zero_le _, fun l hl => ?_⟩
    have u0 : Und H (upd H l (.lst [])) p q l [] := Und.start (Dr.refl M.hp) hl
    refine ⟨fun σ H1 => ∃ (l : Addr) (xs : List V) (ys : List (List Deed)), σ = [some (.ref p), some (.ref c), some (.ref b), some (.bl wh), some (.ref a), some (.ref l), none] ∧ Und H H1 p q l xs ∧ Paired (Yr (hid l p H1)) xs ys ∧ ys.length ≤ 3 ∧ ∀ y ∈ ys, y.length ≤ 6 ∧ ∀ d ∈ y, Made ks ps d, ?_, ?_⟩
    · refine ⟨_, rfl, wh, rfl, ?_⟩
      cases wh with
      | true => exact iteF ⟨l, [], [], rfl, u0, .nil, Nat.zero_le _, fun y hy => nomatch hy⟩
      | false =>
        refine iteT ⟨_, rfl, _, rfl, _, rfl, p, q, c, a, ks, ps, rfl, M.keep u0.d, fun b' xs ys H' u px yl gy => ?_⟩
        exact ⟨b', xs, ys, rfl, ⟨u0.d.trans u.d, (u0.d.free u.b0).1, u.bp, u.bq, u.at_⟩, px, yl, fun y hy => ⟨by have := (gy y hy).1; omega, (gy y hy).2⟩⟩
    rintro σ H1 ⟨l, xs, ys, rfl, u1, px1, yl, gy⟩
    refine ⟨_, rfl, b, rfl, for_sq (K := K) (a := b) (xs := bxs) (IsSeq.lst h1) (fun i σ H2 => ∃ (xs : List V) (ys : List (List Deed)) (v6 : Option V), σ = [some (.ref p), some (.ref c), some (.ref b), some (.bl wh), some (.ref a), some (.ref l), v6] ∧ Und H H2 p q l xs ∧ Paired (Yr (hid l p H2)) xs ys ∧ ys.length ≤ 3 + i ∧ ∀ y ∈ ys, y.length ≤ 6 ∧ ∀ d ∈ y, Made ks ps d)
      ⟨xs, ys, none, rfl, u1, px1, by omega, gy⟩ (fun i σ H2 ⟨_, _, _, _, u, _⟩ => u.d.same.trans wo_same) ?_ ?_⟩
    · rintro i x σ H2 hi ⟨xs, ys, v6, rfl, u2, px2, yl2, gy2⟩
      obtain ⟨e, hei, he'⟩ := pr_get h2 hi
      have me := List.mem_of_getElem? hei
      have ie := (List.getElem?_eq_some_iff.mp hei).1
      obtain ⟨r, rfl⟩ := he'.ref
      have lxs := Paired.length px2
      refine ⟨_, rfl, .inl ⟨rfl, _, SqL.of u2.at_⟩, _, rfl, _, rfl, _, rfl, _, rfl, p, q, c, a, r, ks, ps, e, rfl, M.keep u2.d, he'.keep u2.d.same, (ge e me).few, (ge e me).fit.md, fun b' zs ds H3 u3 pz dl md => ?_⟩
      have u23 := u2.dr u3.d
      have lb : l ≠ b' := fun z => by have := u3.b0; rw [← z, u2.at_] at this; cases this
      have s23 := u2.kh u3.d
      refine ⟨l, _, _, rfl, rfl, u23.at_, small1000 (by omega), xs ++ [.ref b'], ys ++ [ds], _, rfl, u23.set, pr_app (pr_imp px2 fun _ _ z => (z.keep s23).keep hid_b) (.cons ⟨b', zs, rfl, hid_b _ _ (hid_at u3.at_ lb.symm u3.bp), pr_imp pz fun _ _ z => ((z.keep hid_wo).hidL u23.at_).keep hid_b⟩ .nil), by simp; omega, fun y hy => ?_⟩
      rcases List.mem_append.mp hy with h | h
      · exact gy2 y h
      · rw [List.mem_singleton.mp h]
        exact ⟨dl, md⟩
    · rintro σ H2 ⟨xs, ys, v6, rfl, u2, px2, yl2, gy2⟩
      rw [Paired.length h2] at yl2
      exact ⟨_, rfl, k l xs ys H2 u2 px2 (by omega) gy2⟩
theorem scXMade : FnScope ["_law_entry_here"] ["_law_entry_here"] (defScope sLEntryMade) := ⟨rfl, rfl, rfl, by decide +kernel, rfl, by decide +kernel, by decide +kernel⟩
theorem ok_xmade {f f1 f2 f3 f4 f5 : Addr} {fd fd1 fd2 fd3 fd4 fd5 : FuncData} {Cs : Ew → Addr} (F : Fun K "_law_entry_made" "_law_entry_made" sLEntryMade f fd) (m : mg "_law_entry_made" = some (.ref f)) (MK : EnM P w K mg base (Cs .known) "Known" 3 ["self", "deeds"] (spEnD K Cs .known) f1 fd1)
    (MH : EnM P w K mg base (Cs .holding) "Holding" 3 ["self", "deeds"] (spEnD K Cs .holding) f2 fd2) (MU : EnM P w K mg base (Cs .unknown) "Unknown" 1 ["self"] (spEnU Cs) f3 fd3) (MW : EnM P w K mg base (Cs .without) "Without" 3 ["self", "names"] (spEnN Cs) f4 fd4)
    (MN : EnM P w K mg base (Cs .noted) "Noted" 3 ["self", "names", "deeds"] (spEnB K Cs) f5 fd5) : HasF P w K mg base "_law_entry_made" 5 ["_law_entry_here"] (spXMade Cs) := by
  refine ⟨f, fd, ?_, m, F.kp, F.binds fun _ _ _ _ _ _ us hl => match us, hl with | [_], _ => rfl⟩
  refine F.ok scXMade (fun vs H Q E h => ?_) (fun cdv A outer s H vs Q E hr h => ?_)
  · obtain ⟨a, b, c, d, rfl, _⟩ := h
    rfl
  · obtain ⟨r, ks, ps, e, rfl, he, ge, gk, k⟩ := h
    have hr2 : Room 2 _ := hr.mono (by decide)
    refine ⟨_, (pss_cons (ps_if (pt_cmpR op_in_seq (pe_ix ix_list (pv 0) pe_int (fun _ _ => rfl)) (pe_tup (pa_cons pe_str (pa_cons pe_str pa_nil))) (by rfl)) (pss_one (ps_ret (pe_ifExp (pt_cmpR op_eq (pe_ix ix_list (pv 0) pe_int (fun _ _ => rfl)) pe_str (nomark _)) (pe_make MK.M MK.G hr (by rfl) MK.m MK.b .nil pass0 (pa_cons (pe_ix ix_list (pv 0) pe_int (fun _ _ => rfl)) pa_nil)) (pe_make MH.M MH.G hr (by rfl) MH.m MH.b .nil pass0 (pa_cons (pe_ix ix_list (pv 0) pe_int (fun _ _ => rfl)) pa_nil))))) pss_nil)
    (pss_cons (ps_if (pt_cmpR op_eq (pe_ix ix_list (pv 0) pe_int (fun _ _ => rfl)) pe_str (nomark _)) (pss_one (ps_ret (pe_make0 MU.M MU.G hr2 (by rfl) MU.m MU.b .nil pass0))) pss_nil)
    (pss_one (ps_ret (pe_ifExp (pt_cmpR op_eq (pe_ix ix_list (pv 0) pe_int (fun _ _ => rfl)) pe_str (nomark _)) (pe_make MW.M MW.G hr (by rfl) MW.m MW.b .nil pass0 (pa_cons (pe_ix ix_list (pv 0) pe_int (fun _ _ => rfl)) pa_nil)) (pe_make MN.M MN.G hr (by rfl) MN.m MN.b .nil pass0 (pa_cons (pe_ix ix_list (pv 0) pe_int (fun _ _ => rfl)) (pa_cons (pe_ix ix_list (pv 0) pe_int (fun _ _ => rfl)) pa_nil)))))))), ?_⟩
    obtain ⟨r', n, td, xs, er, h1, h2, h3, h4⟩ := he
    cases er
    have lt := Paired.length h4
    have f3 := ge.few
    refine ⟨_, rfl, r, _, 0, _, rfl, rfl, SqL.of h1, atI0 _ _, (by show 2 ≤ sizeLine; decide), fun t ht => ⟨t, _, rfl, .inr (SqT.of upd_same), rfl, rfl, _, rfl, ?_⟩⟩
    have s1 : Same H (upd H t (.tup [.str "known", .str "holding"])) := sameUpd (Same.refl _) ht
    rw [if_neg Bool.false_ne_true, word_kh]
    have told : ∀ {H2 : Hp}, Same H H2 → IsSeq K H2 td xs ∧ Paired (Sx H2) xs e.told := fun s => ⟨.lst (s _ _ h3), pr_imp h4 fun _ _ z => .inr (z.keep s)⟩
    by_cases ew : e.w = .known ∨ e.w = .holding
    · rw [decide_eq_true ew]
      refine iteT ⟨_, rfl, r, _, 0, _, rfl, rfl, SqL.of (s1 _ _ h1), atI0 _ _, rfl, _, rfl, ?_⟩
      rw [word_k]
      have nn : e.names = [] := ge.fit.nn (fun z => by rw [z] at ew; rcases ew with h | h <;> cases h) (fun z => by rw [z] at ew; rcases ew with h | h <;> cases h)
      by_cases e1 : e.w = .known
      · rw [decide_eq_true e1]
        refine iteT ⟨_, rfl, r, _, 2, _, rfl, rfl, SqL.of (s1 _ _ h1), rfl, fun x dx hx hdx ne => ?_⟩
        have sm := mk_same (o := .own x) (o' := .ins (Cs .known) dx []) hx hdx
        obtain ⟨q1, q2⟩ := told (s1.trans sm)
        refine ⟨x, dx, td, xs, e.told, rfl, upd_same, q1, q2, by omega, fun H' b he => ⟨rfl, k x H' (s1.trans (b.same sm hx)) ?_⟩⟩
        have : (⟨.known, [], e.told⟩ : En) = e := by rw [← e1, ← nn]
        rw [this] at he
        exact he
      · rw [decide_eq_false e1]
        have e2 : e.w = .holding := ew.resolve_left e1
        refine iteF ⟨_, rfl, r, _, 2, _, rfl, rfl, SqL.of (s1 _ _ h1), rfl, fun x dx hx hdx ne => ?_⟩
        have sm := mk_same (o := .own x) (o' := .ins (Cs .holding) dx []) hx hdx
        obtain ⟨q1, q2⟩ := told (s1.trans sm)
        refine ⟨x, dx, td, xs, e.told, rfl, upd_same, q1, q2, by omega, fun H' b he => ⟨rfl, k x H' (s1.trans (b.same sm hx)) ?_⟩⟩
        have : (⟨.holding, [], e.told⟩ : En) = e := by rw [← e2, ← nn]
        rw [this] at he
        exact he
    rw [decide_eq_false ew]
    refine iteF ⟨_, rfl, r, _, 0, _, rfl, rfl, SqL.of (s1 _ _ h1), atI0 _ _, rfl, _, rfl, ?_⟩
    rw [word_u]
    by_cases e3 : e.w = .unknown
    · rw [decide_eq_true e3]
      refine iteT fun x dx hx hdx ne => ?_
      have sm := mk_same (o := .own x) (o' := .ins (Cs .unknown) dx []) hx hdx
      refine ⟨x, dx, rfl, upd_same, fun H' b he => ⟨rfl, k x H' (s1.trans (b.same sm hx)) ?_⟩⟩
      have : (⟨.unknown, [], []⟩ : En) = e := by rw [← e3, ← ge.fit.nn (by rw [e3]; exact fun z => nomatch z) (by rw [e3]; exact fun z => nomatch z), ← ge.none (.inl e3)]
      rw [this] at he
      exact he
    rw [decide_eq_false e3]
    refine iteF ⟨_, rfl, r, _, 0, _, rfl, rfl, SqL.of (s1 _ _ h1), atI0 _ _, rfl, _, rfl, ?_⟩
    rw [word_w]
    by_cases e4 : e.w = .without
    · rw [decide_eq_true e4]
      refine iteT ⟨_, rfl, r, _, 1, _, rfl, rfl, SqL.of (s1 _ _ h1), rfl, fun x dx hx hdx ne => ?_⟩
      have sm := mk_same (o := .own x) (o' := .ins (Cs .without) dx []) hx hdx
      refine ⟨x, dx, n, e.names, rfl, upd_same, (s1.trans sm) _ _ h2, ge.dis, ge.lab gk, ge.few1000 gk, fun H' b he => ⟨rfl, k x H' (s1.trans (b.same sm hx)) ?_⟩⟩
      have : (⟨.without, e.names, []⟩ : En) = e := by rw [← e4, ← ge.none (.inr e4)]
      rw [this] at he
      exact he
    · rw [decide_eq_false e4]
      have e5 : e.w = .noted := by
        cases h : e.w with
        | known => exact absurd (.inl h) ew
        | holding => exact absurd (.inr h) ew
        | unknown => exact absurd h e3
        | without => exact absurd h e4
        | noted => rfl
      refine iteF ⟨_, rfl, r, _, 1, _, rfl, rfl, SqL.of (s1 _ _ h1), rfl, _, rfl, r, _, 2, _, rfl, rfl, SqL.of (s1 _ _ h1), rfl, fun x dx hx hdx ne => ?_⟩
      have sm := mk_same (o := .own x) (o' := .ins (Cs .noted) dx []) hx hdx
      obtain ⟨q1, q2⟩ := told (s1.trans sm)
      refine ⟨x, dx, n, td, e.names, xs, e.told, rfl, upd_same, (s1.trans sm) _ _ h2, ge.dis, ge.lab gk, ge.few1000 gk, q1, q2, by omega, fun H' b he => ⟨rfl, k x H' (s1.trans (b.same sm hx)) ?_⟩⟩
      have : (⟨.noted, e.names, e.told⟩ : En) = e := by rw [← e5]
      rw [this] at he
      exact he
end
end Kx

set_option maxHeartbeats 8000000
namespace Kx
open PySem L2
/-! drawn kinds -/
def seven : List Str := ["grant", "sells", "takes", "ends", "shuts", "lends", "uses"]
theorem seven_ok : ∀ z ∈ seven, isLab z = true ∧ ¬ z = Str.ofString "year" ∧ ¬ z = Str.ofString "zzzzzz" := by decide +kernel
theorem seven_nd : seven.Nodup := by decide +kernel
def spXCustom : Sp := fun vs H Q _ => ∃ p q : Addr, vs = [.ref p] ∧ HandAt H p q ∧ ∀ (c : Addr) (ks : List (Str × Int)) (H' : Hp), Dr H H' p q → CusAt (wo p H') c ks → GoodK ks → (∀ r ∈ ks, ¬ r.1 = Str.ofString "zzzzzz") → ks.length ≤ 3 → Q (.ref c) H'
theorem pr_rev {α β : Type} {F : α → β → Prop} : ∀ {xs : List α} {ys : List β}, Paired F xs ys → Paired F xs.reverse ys.reverse
  | _, _, .nil => .nil
  | _, _, .cons h t => by
    rw [List.reverse_cons, List.reverse_cons]
    exact pr_app (pr_rev t) (.cons h .nil)
theorem goodK_of {ks : List (Str × Int)} (l1 : 1 ≤ ks.length) (l6 : ks.length ≤ 6) (nd : (ks.map (·.1)).Nodup) (sub : ∀ z ∈ ks.map (·.1), z ∈ seven) (num : ∀ r ∈ ks, 0 ≤ r.2 ∧ r.2 ≤ 2) : GoodK ks ∧ ∀ r ∈ ks, ¬ r.1 = Str.ofString "zzzzzz" := by
  have at_ : ∀ r ∈ ks, isLab r.1 = true ∧ ¬ r.1 = Str.ofString "year" ∧ ¬ r.1 = Str.ofString "zzzzzz" := fun r hr => seven_ok _ (sub _ (List.mem_map.mpr ⟨r, hr, rfl⟩))
  exact ⟨⟨l1, l6, fun r hr => ⟨(at_ r hr).1, (at_ r hr).2.1, num r hr⟩, nd⟩, fun r hr => (at_ r hr).2.2⟩
section
variable {P : Program} {w : World} {K : PySem.W.Frag} {mg : Str → Option Value} {base : Heap}
theorem scXCustom : FnScope ["_law_hand_here", "_law_names_here", "_law_rows", "_law_name"] ["_law_hand_here"] (defScope sLCustom) := ⟨rfl, rfl, rfl, by decide +kernel, rfl, by decide +kernel, by decide +kernel⟩
theorem ok_xcustom {f : Addr} {fd : FuncData} (F : Fun K "_law_custom" "_law_custom" sLCustom f fd) (m : mg "_law_custom" = some (.ref f)) (T : Bl mg) (D : HasF P w K mg base "_law_draw" 2 ["_law_hand_here", "_law_many"] spDraw) (S : HasF P w K mg base "_law_some" 3 ["_law_hand_here", "_law_rows", "_law_many"] spXSome) : HasF P w K mg base "_law_custom" 4 ["_law_hand_here"] spXCustom := by
  refine ⟨f, fd, ?_, m, F.kp, F.binds fun _ _ _ _ _ _ us hl => match us, hl with | [_], _ => rfl⟩
  obtain ⟨f1, fd1, D⟩ := D; obtain ⟨f2, fd2, S⟩ := S
  refine F.ok scXCustom (fun vs H Q E h => ?_) (fun cdv A outer s H vs Q E hr h => ?_)
  · obtain ⟨a, b, rfl, _⟩ := h
    rfl
  · obtain ⟨p, q, rfl, hp, k⟩ := h
    have hr2 : Room 2 _ := hr.mono (by decide)
    refine ⟨_, (C8.pss_cut (ps_set (i := 1) scXCustom.nd rfl (Or.inl rfl) (pe_call S.G hr (by rfl) S.m S.kp S.b .nil pass0 (pa_cons (pv 0) (pa_cons (pe_lst (pa_cons pe_str (pa_cons pe_str (pa_cons pe_str (pa_cons pe_str (pa_cons pe_str (pa_cons pe_str (pa_cons pe_str pa_nil)))))))) (pa_cons (pe_op op_add pe_int (pe_call D.G hr2 (by rfl) D.m D.kp D.b .nil pass0 (pa_cons (pv 0) (pa_cons pe_int pa_nil)))) pa_nil)))))
    (C8.pss_cut (ps_set (i := 2) scXCustom.nd rfl (Or.inl rfl) (pe_lst (pa_cons (pe_tup (pa_cons (pe_ix ix_list (pv 1) pe_int (fun _ _ => rfl)) (pa_cons (pe_op op_add pe_int (pe_call D.G hr2 (by rfl) D.m D.kp D.b .nil pass0 (pa_cons (pv 0) (pa_cons pe_int pa_nil)))) pa_nil))) pa_nil)))
    (C8.pss_cut (ps_for PassesOwn.never rfl (pi_seq (pe_slice sl_list (pv 1) (po_some pe_int) po_none)) (pg_name (i := 3) scXCustom.nd rfl (.inl rfl))
        (pss_one (ps_expr (pe_bm PySem.F.plainAttrs_list PySem.F.slot_list_append PySem.F.type_list_append mt_append (pv 2) (pa_cons (pe_tup (pa_cons (pv 3) (pa_cons (pe_call D.G hr2 (by rfl) D.m D.kp D.b .nil pass0 (pa_cons (pv 0) (pa_cons pe_int pa_nil))) pa_nil))) pa_nil)))))
    (pss_one (ps_ret (pe_lst (pa_cons (pe_ifExp (pt_cmpR op_eq (pe_call D.G hr2 (by rfl) D.m D.kp D.b .nil pass0 (pa_cons (pv 0) (pa_cons pe_int pa_nil))) pe_int (nomark _)) (pe_revL (pv 2)) (pv 2)) (pa_cons (pe_lst pa_nil) (pa_cons (pe_lst pa_nil) (pa_cons (pe_lst pa_nil) (pa_cons (pe_lst pa_nil) pa_nil))))))))))), ?_⟩
    refine ⟨fun σ H1 => ∃ (n : Addr) (z : Str) (zs : List Str), σ = [some (.ref p), some (.ref n), none, none] ∧ Dr H H1 p q ∧ wo p H1 n = some (.lst ((z :: zs).map V.str)) ∧ (z :: zs).Nodup ∧ (∀ y ∈ z :: zs, y ∈ seven) ∧ zs.length ≤ 2, ?_, ?_⟩
    · refine ⟨_, rfl, (by show 7 ≤ sizeLine; decide), fun l hl => ?_⟩
      have d0 := (Dr.refl hp).new (o := .lst (seven.map V.str)) hl
      have h0 := ((Dr.refl hp).newS (o := .lst (seven.map V.str)) hl).2
      refine ⟨_, rfl, p, q, 3, rfl, d0.hp, by decide, by decide, fun y H1 y0 y1 hp1 k1 => ⟨_, _, rfl, rfl, ?_⟩⟩
      have d1 : Dr _ H1 p q := ⟨hp1, k1⟩
      refine ⟨p, q, l, seven, 1 + y, rfl, hp1, d1.same _ _ h0, seven_nd, by decide, by omega, by have : seven.length = 7 := rfl; omega, fun b fs H' hb0 d' hb nd sub fl => ?_⟩
      cases fs with
      | nil => exact absurd fl (by show ¬ ((0 : Nat) : Int) = 1 + y; omega)
      | cons z zs => exact ⟨b, z, zs, rfl, (d0.trans d1).trans d', hb, nd, sub, by rw [List.length_cons] at fl; omega⟩
    rintro σ H1 ⟨n, z, zs, rfl, d1, hn, nd, sub, lz⟩
    refine ⟨fun σ H2 => ∃ (b : Addr) (xs : List V) (r : Str × Int), σ = [some (.ref p), some (.ref n), some (.ref b), none] ∧ Und H H2 p q b xs ∧ hid b p H2 n = some (.lst ((z :: zs).map V.str)) ∧ Paired (PairT (hid b p H2)) xs [r] ∧ r.1 = z ∧ 0 ≤ r.2 ∧ r.2 ≤ 2, ?_, ?_⟩
    · refine ⟨_, rfl, n, _, 0, _, rfl, rfl, SqL.of (wo_get hn).1, atI0 _ _, _, rfl, p, q, 2, rfl, d1.hp, by decide, by decide, fun y H2 y0 y1 hp2 k2 => ⟨_, _, rfl, rfl, (by show 2 ≤ sizeLine; decide), fun t ht => ⟨(by show 1 ≤ sizeLine; decide), fun b hb => ?_⟩⟩⟩
      have d2 := d1.draw k2 hp2
      have d3 := d2.new (o := .tup [.str z, .int (1 + y)]) ht
      have u4 : Und H _ p q b [.ref t] := Und.start d3 hb
      have hn2 := (k2 _ _ (wo_get hn).1 (wo_get hn).2)
      have nt := ne_of_none hn2 ht
      have hn3 : upd H2 t (.tup [.str z, .int (1 + y)]) n = some (.lst ((z :: zs).map V.str)) := by rw [upd_ne nt]; exact hn2
      have nb := ne_of_none hn3 hb
      have tb := ne_of_none (upd_same (H := H2) (a := t) (o := .tup [.str z, .int (1 + y)])) hb
      exact ⟨b, _, (z, 1 + y), rfl, u4, hid_at (by rw [upd_ne nb]; exact hn3) nb (wo_get hn).2, .cons ⟨t, rfl, hid_at (by rw [upd_ne tb]; exact upd_same) tb (d2.free ht).2.1⟩ .nil, rfl, by show 0 ≤ 1 + y; omega, by show 1 + y ≤ 2; omega⟩
    rintro σ H2 ⟨b, xs, r, rfl, u2, hn2, px2, er, r0, r2⟩
    refine ⟨fun σ H3 => ∃ (xs : List V) (ks : List (Str × Int)), σ[0]? = some (some (.ref p)) ∧ σ[2]? = some (some (.ref b)) ∧ Und H H3 p q b xs ∧ Paired (PairT (hid b p H3)) xs ks ∧ ks.map (·.1) = z :: zs ∧ ∀ r ∈ ks, 0 ≤ r.2 ∧ r.2 ≤ 2, ?_, ?_⟩
    · refine ⟨_, rfl, _, rfl, n, _, rfl, SqL.of (hid_get hn2).1, fun s' hs => ?_⟩
      rw [List.map_cons, cut1]
      obtain ⟨u3, sb, sp, hs3, s23⟩ := u2.new (o := .lst (zs.map V.str)) hs
      refine ⟨s', rfl, for_sq (K := K) (a := s') (xs := zs.map V.str) (IsSeq.lst hs3) (fun i σ H3 => ∃ (xs : List V) (ks : List (Str × Int)) (v3 : Option V), σ = [some (.ref p), some (.ref n), some (.ref b), v3] ∧ Same (hid b p (upd H2 s' (.lst (zs.map V.str)))) (hid b p H3) ∧ Und H H3 p q b xs ∧ Paired (PairT (hid b p H3)) xs ks ∧ ks.map (·.1) = z :: zs.take i ∧ ∀ r ∈ ks, 0 ≤ r.2 ∧ r.2 ≤ 2)
        ⟨xs, [r], none, rfl, Same.refl _, u3, pr_imp px2 fun _ _ h => h.keep s23, by rw [← er]; rfl, fun r' h => by rw [List.mem_singleton.mp h]; exact ⟨r0, r2⟩⟩ (fun i σ H3 ⟨_, _, _, _, s, _⟩ => s.trans (hid_wo.trans wo_same)) ?_ ?_⟩
      · rintro i x σ H3 hi ⟨xs, ks, v3, rfl, s3, u4, px4, ek, num⟩
        rw [List.getElem?_map] at hi
        obtain ⟨y, hy, rfl⟩ := Option.map_eq_some_iff.mp hi
        have iy := (List.getElem?_eq_some_iff.mp hy).1
        have lk : ks.length = i + 1 := by rw [← List.length_map (f := fun x : Str × Int => x.1), ek, List.length_cons, List.length_take]; omega
        refine ⟨_, rfl, .inl ⟨rfl, _, SqL.of u4.at_⟩, _, rfl, _, rfl, p, q, 3, rfl, u4.d.hp, by decide, by decide, fun m H5 m0 m1 hp5 k5 => ⟨(by show 2 ≤ sizeLine; decide), fun t ht => ?_⟩⟩
        have d5 : Dr H3 H5 p q := ⟨hp5, k5⟩
        have u5 := u4.dr d5
        obtain ⟨u6, tb, tp, ht6, s56⟩ := u5.new (o := .tup [.str y, .int m]) ht
        have s36 := (u4.kh d5).trans s56
        refine ⟨b, _, _, rfl, rfl, u6.at_, small1000 (by rw [Paired.length px4]; omega), xs ++ [.ref t], ks ++ [(y, m)], _, rfl, (s3.trans s36).trans hid_b, u6.set, pr_app (pr_imp px4 fun _ _ h => (h.keep s36).keep hid_b) (.cons ⟨t, rfl, hid_b _ _ ht6⟩ .nil), ?_, fun r' h => ?_⟩
        · rw [List.map_append, ek, take_succ_of hy]
          rfl
        · rcases List.mem_append.mp h with h | h
          · exact num r' h
          · rw [List.mem_singleton.mp h]
            exact ⟨m0, by show m ≤ 2; omega⟩
      · rintro σ H3 ⟨xs, ks, v3, rfl, s3, u4, px4, ek, num⟩
        rw [List.length_map, List.take_length] at ek
        exact ⟨xs, ks, rfl, rfl, u4, px4, ek, num⟩
    rintro σ H3 ⟨xs, ks, e0, e2, u3, px3, ek, num⟩
    have lk : ks.length = zs.length + 1 := by rw [← List.length_map (f := fun x : Str × Int => x.1), ek, List.length_cons]
    obtain ⟨gk, nz⟩ := goodK_of (ks := ks) (by omega) (by omega) (by rw [ek]; exact nd) (by rw [ek]; exact sub) num
    refine ⟨_, e0, p, q, 2, rfl, u3.d.hp, by decide, by decide, fun y H4 y0 y1 hp4 k4 => ⟨rfl, _, rfl, ?_⟩⟩
    have d4 : Dr H3 H4 p q := ⟨hp4, k4⟩
    have u4 := u3.dr d4
    have px4 : Paired (PairT (wo p H4)) xs ks := pr_imp px3 fun _ _ h => (h.keep (u3.kh d4)).keep hid_wo
    have fin : ∀ (bb : Addr) (xs : List V) (ks : List (Str × Int)) (H5 : Hp), Dr H H5 p q → H5 bb = some (.lst xs) → bb ≠ p → Paired (PairT (wo p H5)) xs ks → GoodK ks → (∀ r ∈ ks, ¬ r.1 = Str.ofString "zzzzzz") → ks.length ≤ 3 → ∀ a1, H5 a1 = none → ∀ a2, upd H5 a1 (.lst []) a2 = none → ∀ a3, upd (upd H5 a1 (.lst [])) a2 (.lst []) a3 = none → ∀ a4, upd (upd (upd H5 a1 (.lst [])) a2 (.lst [])) a3 (.lst []) a4 = none → ∀ c, upd (upd (upd (upd H5 a1 (.lst [])) a2 (.lst [])) a3 (.lst [])) a4 (.lst []) c = none →
        Q (.ref c) (upd (upd (upd (upd (upd H5 a1 (.lst [])) a2 (.lst [])) a3 (.lst [])) a4 (.lst [])) c (.lst [.ref bb, .ref a1, .ref a2, .ref a3, .ref a4])) := fun bb xs ks H5 d5 hb bp px gk nz l3 a1 h1 a2 h2 a3 h3 a4 h4 c hc => by
      have e1 := d5.new (o := .lst []) h1
      have e2 := e1.new (o := .lst []) h2
      have e3 := e2.new (o := .lst []) h3
      have e4 := e3.new (o := .lst []) h4
      have e5 := e4.new (o := .lst [.ref bb, .ref a1, .ref a2, .ref a3, .ref a4]) hc
      have s5 : Same H5 (upd (upd (upd (upd (upd H5 a1 (.lst [])) a2 (.lst [])) a3 (.lst [])) a4 (.lst [])) c (.lst [.ref bb, .ref a1, .ref a2, .ref a3, .ref a4])) := sameUpd (sameUpd (sameUpd (sameUpd (sameUpd (Same.refl _) h1) h2) h3) h4) hc
      exact k c ks _ e5 ⟨bb, [.ref a1, .ref a2, .ref a3, .ref a4], xs, (e4.newS hc).2, wo_at (s5 _ _ hb) bp, pr_imp px fun _ _ h => h.keep (wo_mono s5)⟩ gk nz l3
    refine ite2 (fun c1 => ?_) (fun c1 => ?_)
    · refine ⟨_, e2, b, xs, rfl, SqL.of u4.at_, fun l hl => ?_⟩
      have sl := sameUpd (o := .lst xs.reverse) (Same.refl H4) hl
      obtain ⟨gr, nr⟩ := goodK_of (ks := ks.reverse) (by rw [List.length_reverse]; omega) (by rw [List.length_reverse]; omega) (by rw [List.map_reverse, ek]; exact ((List.reverse_perm (z :: zs)).nodup_iff).mpr nd) (fun y hy => sub y (by rw [List.map_reverse, ek, List.mem_reverse] at hy; exact hy)) (fun r hr => num r (List.mem_reverse.mp hr))
      exact ⟨Nat.zero_le _, fun a1 h1 => ⟨Nat.zero_le _, fun a2 h2 => ⟨Nat.zero_le _, fun a3 h3 => ⟨Nat.zero_le _, fun a4 h4 => ⟨(by show 5 ≤ sizeLine; decide), fun c hc => fin l xs.reverse ks.reverse _ (u4.d.new hl) upd_same (u4.d.free hl).2.1 (pr_rev (pr_imp px4 fun _ _ h => h.keep (wo_mono sl))) gr nr (by rw [List.length_reverse]; omega) a1 h1 a2 h2 a3 h3 a4 h4 c hc⟩⟩⟩⟩⟩
    · refine ⟨_, e2, ?_⟩
      exact ⟨Nat.zero_le _, fun a1 h1 => ⟨Nat.zero_le _, fun a2 h2 => ⟨Nat.zero_le _, fun a3 h3 => ⟨Nat.zero_le _, fun a4 h4 => ⟨(by show 5 ≤ sizeLine; decide), fun c hc => fin b xs ks _ u4.d u4.at_ u4.bp px4 gk nz (by omega) a1 h1 a2 h2 a3 h3 a4 h4 c hc⟩⟩⟩⟩⟩
end
end Kx

set_option maxHeartbeats 8000000
namespace Kx
open PySem L2
/-! a bent year -/
def spXBent : Sp := fun vs H Q _ => ∃ (p q c a y : Addr) (ks : List (Str × Int)) (ps : List Str) (ds : List Deed), vs = [.ref p, .ref c, .ref y, .ref a] ∧ Mt H p q c a ks ps ∧ Yr (wo p H) (.ref y) ds ∧ ds.length ≤ 6 ∧ (∀ d ∈ ds, Made ks ps d) ∧
  ∀ (b : Addr) (xs : List V) (ds' : List Deed) (H' : Hp), Und H H' p q b xs → Paired (Ss .tup (hid b p H')) xs ds' → ds'.length ≤ 7 → (∀ d ∈ ds', Made ks ps d) → Q (.ref b) H'
abbrev nXBent : List Str := ["_law_hand_here", "_law_custom_here", "_law_year", "_law_persons_here", "_law_bent_here", "_law_way", "_law_place"]
theorem pr_erase {α β : Type} {F : α → β → Prop} {xs : List α} {ys : List β} (h : Paired F xs ys) (k : Nat) : Paired F (xs.eraseIdx k) (ys.eraseIdx k) := by
  rw [List.eraseIdx_eq_take_drop_succ, List.eraseIdx_eq_take_drop_succ]
  exact pr_app (pr_take h k) (pr_drop h (k + 1))
theorem pr_set {α β : Type} {F : α → β → Prop} {x : α} {y : β} (f : F x y) : ∀ {xs : List α} {ys : List β}, Paired F xs ys → ∀ k, Paired F (xs.set k x) (ys.set k y)
  | _, _, .nil, _ => .nil
  | _, _, .cons _ t, 0 => .cons f t
  | _, _, .cons h t, k + 1 => .cons h (pr_set f t k)
theorem ixN_nat {n k : Nat} (h : k < n) : ixN n ((k : Nat) : Int) = some k := by
  unfold ixN
  rw [if_pos (by omega), if_pos (by omega)]
  rfl
section
variable {P : Program} {w : World} {K : PySem.W.Frag} {mg : Str → Option Value} {base : Heap}
theorem scXBent : FnScope nXBent ["_law_hand_here", "_law_custom_here", "_law_year", "_law_persons_here"] (defScope sLBent) := ⟨rfl, rfl, rfl, by decide +kernel, rfl, by decide +kernel, by decide +kernel⟩
theorem ok_xbent {f : Addr} {fd : FuncData} (F : Fun K "_law_bent" "_law_bent" sLBent f fd) (m : mg "_law_bent" = some (.ref f)) (T : Bl mg) (B : Bm mg) (D : HasF P w K mg base "_law_draw" 2 ["_law_hand_here", "_law_many"] spDraw) (G : HasF P w K mg base "_law_deed" 4 ["_law_hand_here", "_law_custom_here", "_law_persons_here"] spXDeed) :
    HasF P w K mg base "_law_bent" 5 ["_law_hand_here", "_law_custom_here", "_law_year", "_law_persons_here"] spXBent := by
  refine ⟨f, fd, ?_, m, F.kp, F.binds fun _ _ _ _ _ _ us hl => match us, hl with | [_, _, _, _], _ => rfl⟩
  obtain ⟨f1, fd1, D⟩ := D; obtain ⟨f2, fd2, G⟩ := G
  refine F.ok scXBent (fun vs H Q E h => ?_) (fun cdv A outer s H vs Q E hr h => ?_)
  · obtain ⟨a, b, c, d, e, g, i, j, rfl, _⟩ := h
    rfl
  · obtain ⟨p, q, c, a, y, ks, ps, ds, rfl, M, hy, d6, md, k⟩ := h
    have hr2 : Room 2 _ := hr.mono (by decide)
    obtain ⟨y', yxs, ey, h1, h2⟩ := hy
    cases ey
    refine ⟨_, (pss_cons (ps_set (i := 4) scXBent.nd rfl (Or.inl rfl) (pe_callTy call_list_of (by rfl) B.list (by decide +kernel) (pa_cons (pv 2) pa_nil)))
    (C8.pss_cut (ps_set (i := 5) scXBent.nd rfl (Or.inl rfl) (pe_call D.G hr2 (by rfl) D.m D.kp D.b .nil pass0 (pa_cons (pv 0) (pa_cons pe_int pa_nil))))
    (C8.pss_cut (ps_if (PW.pt (pw_and (pt_cmpR op_eq (pv 5) pe_int (nomark _)) (pw_and1 (pt_cmpR (op_neL hr.units) (pv 4) (pe_lst pa_nil) (nomark _))))) (pss_one (ps_expr (pe_bm PySem.F.plainAttrs_list PySem.F.slot_list_pop PySem.F.type_list_pop mt_popAt (pv 4) (pa_cons (pe_call D.G hr2 (by rfl) D.m D.kp D.b .nil pass0 (pa_cons (pv 0) (pa_cons (pe_callB call_len_seq (by rfl) T.len PySem.boot_len (pa_cons (pv 4) pa_nil)) pa_nil))) pa_nil)))) pss_nil)
    (C8.pss_cut (ps_if (pt_cmpR op_eq (pv 5) pe_int (nomark _)) (pss_one (ps_expr (pe_bm PySem.F.plainAttrs_list PySem.F.slot_list_insert PySem.F.type_list_insert mt_insert (pv 4) (pa_cons (pe_call D.G hr2 (by rfl) D.m D.kp D.b .nil pass0 (pa_cons (pv 0) (pa_cons (pe_op op_add (pe_callB call_len_seq (by rfl) T.len PySem.boot_len (pa_cons (pv 4) pa_nil)) pe_int) pa_nil))) (pa_cons (pe_call G.G hr (by rfl) G.m G.kp G.b .nil pass0 (pa_cons (pv 0) (pa_cons (pv 1) (pa_cons (pv 3) pa_nil)))) pa_nil))))) pss_nil)
    (C8.pss_cut (ps_if (PW.pt (pw_and (pt_cmpR op_eq (pv 5) pe_int (nomark _)) (pw_and1 (pt_cmpR op_gt (pe_callB call_len_seq (by rfl) T.len PySem.boot_len (pa_cons (pv 4) pa_nil)) pe_int (nomark _))))) (C8.pss_cut (ps_set (i := 6) scXBent.nd rfl (Or.inl rfl) (pe_call D.G hr2 (by rfl) D.m D.kp D.b .nil pass0 (pa_cons (pv 0) (pa_cons (pe_op op_sub (pe_callB call_len_seq (by rfl) T.len PySem.boot_len (pa_cons (pv 4) pa_nil)) pe_int) pa_nil))))
    (pss_one (ps_asg (pe_tup (pa_cons (pe_ix ix_list (pv 4) (pe_op op_add (pv 6) pe_int) (fun _ _ => rfl)) (pa_cons (pe_ix ix_list (pv 4) (pv 6) (fun _ _ => rfl)) pa_nil))) (pg_tup rfl (pgs_cons (pg_sub (pv 4) (pv 6) set_list) (pgs_cons (pg_sub (pv 4) (pe_op op_add (pv 6) pe_int) set_list) pgs_nil)))))) pss_nil)
    (pss_one (ps_ret (pv 4)))))))), ?_⟩
    refine ⟨_, rfl, y, _, rfl, .inl (SqL.of (wo_get h1).1), fun b hb => ?_⟩
    have u0 : Und H (upd H b (.lst yxs)) p q b yxs := Und.start (Dr.refl M.hp) hb
    have px0 : Paired (Ss .tup (hid b p (upd H b (.lst yxs)))) yxs ds := pr_imp h2 fun _ _ z => z.keep u0.outS
    generalize upd H b (.lst yxs) = H0 at *
    refine ⟨fun σ H1 => ∃ z : Int, σ = [some (.ref p), some (.ref c), some (.ref y), some (.ref a), some (.ref b), some (.int z), none] ∧ Und H H1 p q b yxs ∧ Paired (Ss .tup (hid b p H1)) yxs ds, ?_, ?_⟩
    · refine ⟨_, rfl, p, q, 4, rfl, u0.d.hp, by decide, by decide, fun z H1 z0 z1 hp1 k1 => ?_⟩
      have d1 : Dr _ H1 p q := ⟨hp1, k1⟩
      exact ⟨z, rfl, u0.dr d1, pr_imp px0 fun _ _ h => h.keep (u0.kh d1)⟩
    rintro σ H1 ⟨z, rfl, u1, px1⟩
    refine ⟨fun σ H2 => ∃ (xs : List V) (ds' : List Deed), σ = [some (.ref p), some (.ref c), some (.ref y), some (.ref a), some (.ref b), some (.int z), none] ∧ Und H H2 p q b xs ∧ Paired (Ss .tup (hid b p H2)) xs ds' ∧ ds'.length ≤ 6 ∧ ∀ d ∈ ds', Made ks ps d, ?_, ?_⟩
    · refine ⟨_, rfl, rfl, _, rfl, ?_⟩
      refine ite2 (fun c1 => ?_) (fun c1 => iteF ⟨yxs, ds, rfl, u1, px1, d6, md⟩)
      refine ⟨_, rfl, Nat.zero_le _, fun l hl => ne_nil (K := K) (by rw [upd_ne (ne_of_none u1.at_ hl)]; exact u1.at_) (fun z hz => ?_) l upd_same ⟨_, rfl, ?_⟩⟩
      · obtain ⟨i, hi⟩ := List.mem_iff_getElem?.mp hz
        obtain ⟨_, _, t, rfl, _⟩ := pr_get px1 hi
        exact .inr ⟨t, rfl⟩
      obtain ⟨u2, _, _, _, s2⟩ := u1.new (o := .lst []) hl
      have px2 : Paired (Ss .tup (hid b p (upd H1 l (.lst [])))) yxs ds := pr_imp px1 fun _ _ z => z.keep s2
      generalize upd H1 l (.lst []) = H2 at u2 px2 ⊢
      have ly := Paired.length px2
      cases ye : yxs.isEmpty with
      | true => exact iteF ⟨yxs, ds, rfl, u2, px2, d6, md⟩
      | false =>
        have lpos : 0 < yxs.length := by
          cases yxs with
          | nil => cases ye
          | cons _ _ => exact Nat.succ_pos _
        refine iteT ⟨_, rfl, .inl ⟨rfl, _, SqL.of u2.at_⟩, _, rfl, _, rfl, b, _, rfl, .inl (SqL.of u2.at_), p, q, _, rfl, u2.d.hp, by omega, Nat.lt_of_le_of_lt (show ((yxs.length : Nat) : Int).natAbs ≤ 6 by omega) (by decide), fun i H3 i0 i1 hp3 k3 => ?_⟩
        have d3 : Dr _ H3 p q := ⟨hp3, k3⟩
        have u3 := u2.dr d3
        have px3 : Paired (Ss .tup (hid b p H3)) yxs ds := pr_imp px2 fun _ _ h => h.keep (u2.kh d3)
        refine ⟨b, _, i, i.toNat, yxs[i.toNat]'(by omega), rfl, rfl, u3.at_, by omega, by omega, seqIx i0 i1, List.getElem?_eq_getElem _, _, _, rfl, u3.set, pr_imp (pr_erase px3 _) fun _ _ h => h.keep hid_b, ?_, fun d hd => md d (List.mem_of_mem_eraseIdx hd)⟩
        exact Nat.le_trans (List.length_eraseIdx_le _ _) d6
    rintro σ H2 ⟨xs, ds2, rfl, u2, px2, l2, md2⟩
    refine ⟨fun σ H3 => ∃ (xs : List V) (ds' : List Deed), σ = [some (.ref p), some (.ref c), some (.ref y), some (.ref a), some (.ref b), some (.int z), none] ∧ Und H H3 p q b xs ∧ Paired (Ss .tup (hid b p H3)) xs ds' ∧ ds'.length ≤ 7 ∧ ∀ d ∈ ds', Made ks ps d, ?_, ?_⟩
    · refine ⟨_, rfl, rfl, _, rfl, ?_⟩
      refine ite2 (fun c1 => ?_) (fun c1 => ⟨xs, ds2, rfl, u2, px2, by omega, md2⟩)
      have lx := Paired.length px2
      refine ⟨_, rfl, .inl ⟨rfl, _, SqL.of u2.at_⟩, _, rfl, _, rfl, b, _, rfl, .inl (SqL.of u2.at_), _, _, rfl, rfl, p, q, _, rfl, u2.d.hp, by omega, Nat.lt_of_le_of_lt (show (((xs.length : Nat) : Int) + 1).natAbs ≤ 20 by omega) (by decide), fun i H3 i0 i1 hp3 k3 => ?_⟩
      have d3 : Dr _ H3 p q := ⟨hp3, k3⟩
      have u3 := u2.dr d3
      refine ⟨_, rfl, _, rfl, _, rfl, p, q, c, a, ks, ps, rfl, M.keep u3.d, fun t zs H4 d4 mz ht => ?_⟩
      have u4 := u3.dr d4
      have s24 := (u2.kh d3).trans (u3.kh d4)
      have ht' : hid b p H4 t = some (.tup (zs.map V.str)) := wo_at ht fun z => by have h1 := (wo_get ht).1; rw [z, u4.at_] at h1; cases h1
      refine ⟨b, _, i, .ref t, rfl, rfl, u4.at_, small1000 (by omega), i0, Int.lt_of_lt_of_le i1 (show ((xs.length : Nat) : Int) + 1 ≤ 2 ^ 63 by omega), ?_⟩
      have sC := s24.trans (hid_b (b := b) (p := p) (H := H4) (o := .lst (xs.take i.toNat ++ [.ref t] ++ xs.drop i.toNat)))
      refine ⟨_, ds2.take i.toNat ++ [zs] ++ ds2.drop i.toNat, rfl, u4.set, pr_app (pr_app (pr_imp (pr_take px2 _) fun _ _ z => z.keep sC) (.cons ⟨t, rfl, hid_b _ _ ht'⟩ .nil)) (pr_imp (pr_drop px2 _) fun _ _ z => z.keep sC), ?_, fun d hd => ?_⟩
      · simp only [List.length_append, List.length_take, List.length_drop, List.length_cons, List.length_nil]
        omega
      · rcases List.mem_append.mp hd with hd | hd
        · rcases List.mem_append.mp hd with hd | hd
          · exact md2 d (List.mem_of_mem_take hd)
          · rw [List.mem_singleton.mp hd]
            exact mz
        · exact md2 d (List.mem_of_mem_drop hd)
    rintro σ H3 ⟨xs, ds3, rfl, u3, px3, l3, md3⟩
    refine ⟨fun σ H4 => ∃ (xs : List V) (ds' : List Deed), σ[4]? = some (some (.ref b)) ∧ Und H H4 p q b xs ∧ Paired (Ss .tup (hid b p H4)) xs ds' ∧ ds'.length ≤ 7 ∧ ∀ d ∈ ds', Made ks ps d, ?_, ?_⟩
    · refine ⟨_, rfl, rfl, _, rfl, ?_⟩
      have lx := Paired.length px3
      refine ite2 (fun c1 => ?_) (fun c1 => iteF ⟨xs, ds3, rfl, u3, px3, l3, md3⟩)
      refine ⟨_, rfl, b, _, rfl, .inl (SqL.of u3.at_), _, _, rfl, rfl, _, rfl, ?_⟩
      refine ite2 (fun c2 => ?_) (fun c2 => ⟨xs, ds3, rfl, u3, px3, l3, md3⟩)
      have c2 : 1 < xs.length := by have := of_decide_eq_true c2; omega
      refine ⟨fun σ H4 => ∃ i : Nat, σ = [some (.ref p), some (.ref c), some (.ref y), some (.ref a), some (.ref b), some (.int z), some (.int (i : Nat))] ∧ i + 1 < xs.length ∧ Und H H4 p q b xs ∧ Paired (Ss .tup (hid b p H4)) xs ds3, ?_, ?_⟩
      · refine ⟨_, rfl, _, rfl, b, _, rfl, .inl (SqL.of u3.at_), _, _, rfl, rfl, p, q, _, rfl, u3.d.hp, by omega, Nat.lt_of_le_of_lt (show (((xs.length : Nat) : Int) - 1).natAbs ≤ 20 by omega) (by decide), fun i H4 i0 i1 hp4 k4 => ?_⟩
        have d4 : Dr _ H4 p q := ⟨hp4, k4⟩
        refine ⟨i.toNat, by rw [Int.toNat_of_nonneg i0]; rfl, by omega, u3.dr d4, pr_imp px3 fun _ _ h => h.keep (u3.kh d4)⟩
      rintro σ H4 ⟨i, rfl, li, u4, px4⟩
      have e1 : ((i : Nat) : Int) + 1 = ((i + 1 : Nat) : Int) := by omega
      have g0 : xs[i]? = some (xs[i]'(by omega)) := List.getElem?_eq_getElem _
      have g1 : xs[i + 1]? = some (xs[i + 1]'(by omega)) := List.getElem?_eq_getElem _
      obtain ⟨d0, hd0, s0⟩ := pr_get px4 g0
      obtain ⟨d1, hd1, s1⟩ := pr_get px4 g1
      refine ⟨_, rfl, _, rfl, _, _, rfl, rfl, b, xs, _, _, rfl, rfl, SqL.of u4.at_, (by rw [e1]; exact atI_nat g1), _, rfl, _, rfl, b, xs, _, _, rfl, rfl, SqL.of u4.at_, atI_nat g0, (by show 2 ≤ sizeLine; decide), fun t ht => ?_⟩
      obtain ⟨u5, _, _, _, s5⟩ := u4.new (o := .tup [xs[i + 1]'(by omega), xs[i]'(by omega)]) ht
      refine ⟨t, _, rfl, SqT.of upd_same, rfl, _, _, rfl, _, rfl, _, rfl, b, xs, _, i, rfl, rfl, u5.at_, ixN_nat (by omega), ?_⟩
      refine ⟨_, _, rfl, _, rfl, _, rfl, _, _, rfl, rfl, b, _, _, i + 1, rfl, rfl, upd_same, (by rw [e1]; exact ixN_nat (by rw [List.length_set]; omega)), rfl, ?_⟩
      have u6 := (u5.set (ys := xs.set i (xs[i + 1]'(by omega)))).set (ys := (xs.set i (xs[i + 1]'(by omega))).set (i + 1) (xs[i]'(by omega)))
      have sC := s5.trans (hid_b.trans (hid_b (b := b) (p := p) (o := .lst ((xs.set i (xs[i + 1]'(by omega))).set (i + 1) (xs[i]'(by omega)))) (H := upd (upd H4 t (.tup [xs[i + 1]'(by omega), xs[i]'(by omega)])) b (.lst (xs.set i (xs[i + 1]'(by omega)))))))
      refine ⟨_, (ds3.set i d1).set (i + 1) d0, rfl, u6, pr_set (s0.keep sC) (pr_set (s1.keep sC) (pr_imp px4 fun _ _ z => z.keep sC) _) _, by rw [List.length_set, List.length_set]; exact l3, fun d hd => ?_⟩
      rcases List.mem_or_eq_of_mem_set hd with hd | rfl
      · rcases List.mem_or_eq_of_mem_set hd with hd | rfl
        · exact md3 d hd
        · exact md3 _ (List.mem_of_getElem? hd1)
      · exact md3 _ (List.mem_of_getElem? hd0)
    rintro σ H4 ⟨xs, ds4, e4, u4, px4, l4, md4⟩
    exact ⟨_, e4, k b xs ds4 H4 u4 px4 l4 md4⟩
end
end Kx

set_option maxHeartbeats 8000000
namespace Kx
open PySem L2
/-! a looser entry -/
def spXLooser : Sp := fun vs H Q _ => ∃ (p q c a r : Addr) (ks : List (Str × Int)) (ps : List Str) (e : En), vs = [.ref p, .ref c, .ref r, .ref a] ∧ Mt H p q c a ks ps ∧ EntA (wo p H) (.ref r) e ∧ GoodEn ks ps e ∧
  ∀ (r' : Addr) (e' : En) (H' : Hp), Dr H H' p q → EntA (wo p H') (.ref r') e' → (∀ L ys, H L = some (.lst ys) → L ≠ p → EntA (hid L p H) (.ref r) e → EntA (hid L p H') (.ref r') e') → GoodEn ks ps e' → Q (.ref r') H'
abbrev nXLooser : List Str := ["_law_hand_here", "_law_custom_here", "_law_entry_here", "_law_persons_here", "_law_way", "_law_names_here", "_law_deed_here", "_law_name"]
theorem ent_both {H H' : Hp} {p q r n d : Addr} {xs : List V} {e : En} (D : Dr H H' p q) (r0 : H r = none) (n0 : H n = none) (d0 : H d = none) (h1 : wo p H' r = some (.lst [.str (wordE e.w), .ref n, .ref d])) (h2 : wo p H' n = some (.lst (e.names.map V.str))) (h3 : wo p H' d = some (.lst xs)) (h4 : Paired (Ss .tup (wo p H')) xs e.told) :
    EntA (wo p H') (.ref r) e ∧ ∀ L ys, H L = some (.lst ys) → L ≠ p → EntA (hid L p H') (.ref r) e := by
  refine ⟨⟨r, n, d, xs, rfl, h1, h2, h3, h4⟩, fun L ys hL Lp => ?_⟩
  exact ⟨r, n, d, xs, rfl, wo_at h1 (fun z => by rw [z, hL] at r0; cases r0), wo_at h2 (fun z => by rw [z, hL] at n0; cases n0), wo_at h3 (fun z => by rw [z, hL] at d0; cases d0), pr_imp h4 fun _ _ h => h.hidL (D.kp _ _ hL Lp)⟩
theorem word_kn (k : Ew) : inV (.str (wordE k)) [.str "known", .str "noted"] = decide (k = .known ∨ k = .noted) := by cases k <;> decide +kernel
theorem pr_len {α β : Type} {F : α → β → Prop} {xs : List α} {ys : List β} (h : Paired F xs ys) : xs.length = ys.length := Paired.length h
section
variable {P : Program} {w : World} {K : PySem.W.Frag} {mg : Str → Option Value} {base : Heap}
theorem scXLooser : FnScope nXLooser ["_law_hand_here", "_law_custom_here", "_law_entry_here", "_law_persons_here"] (defScope sLLooser) := ⟨rfl, rfl, rfl, by decide +kernel, rfl, by decide +kernel, by decide +kernel⟩
theorem ok_xlooser {f : Addr} {fd : FuncData} (F : Fun K "_law_looser" "_law_looser" sLLooser f fd) (m : mg "_law_looser" = some (.ref f)) (T : Bl mg) (D : HasF P w K mg base "_law_draw" 2 ["_law_hand_here", "_law_many"] spDraw) (Nm : HasF P w K mg base "_law_names" 4 ["_law_hand_here", "_law_custom_here"] spXNames)
    (En' : HasF P w K mg base "_law_entry" 5 ["_law_hand_here", "_law_custom_here", "_law_persons_here", "_law_most"] spXEntry) : HasF P w K mg base "_law_looser" 6 ["_law_hand_here", "_law_custom_here", "_law_entry_here", "_law_persons_here"] spXLooser := by
  refine ⟨f, fd, ?_, m, F.kp, F.binds fun _ _ _ _ _ _ us hl => match us, hl with | [_, _, _, _], _ => rfl⟩
  obtain ⟨f1, fd1, D⟩ := D; obtain ⟨f2, fd2, Nm⟩ := Nm; obtain ⟨f3, fd3, En'⟩ := En'
  refine F.ok scXLooser (fun vs H Q E h => ?_) (fun cdv A outer s H vs Q E hr h => ?_)
  · obtain ⟨a, b, c, d, e, g, i, j, rfl, _⟩ := h
    rfl
  · obtain ⟨p, q, c, a, r, ks, ps, e, rfl, M, he, ge, k⟩ := h
    have hr2 : Room 2 _ := hr.mono (by decide)
    have hr4 : Room 4 _ := hr.mono (by decide)
    have he0 := he
    obtain ⟨r', n, td, txs, er, h1, h2, h3, h4⟩ := he
    cases er
    refine ⟨_, (pss_cons (ps_set (i := 4) scXLooser.nd rfl (Or.inl rfl) (pe_call D.G hr2 (by rfl) D.m D.kp D.b .nil pass0 (pa_cons (pv 0) (pa_cons pe_int pa_nil))))
    (C8.pss_cut (ps_set (i := 5) scXLooser.nd rfl (Or.inr rfl) (pe_call Nm.G hr4 (by rfl) Nm.m Nm.kp Nm.b .nil pass0 (pa_cons (pv 0) (pa_cons (pv 1) pa_nil))))
    (pss_cons (ps_if (pt_cmpR op_eq (pv 4) pe_int (nomark _)) (pss_one (ps_ret (pe_lst (pa_cons pe_str (pa_cons (pe_lst pa_nil) (pa_cons (pe_lst pa_nil) pa_nil)))))) pss_nil)
    (pss_cons (ps_if (pt_cmpR op_eq (pv 4) pe_int (nomark _)) (pss_one (ps_ret (pe_lst (pa_cons pe_str (pa_cons (pe_lst pa_nil) (pa_cons (pe_slice sl_list (pe_lc (own := [("_law_deed_here", 6)]) (g := gName 6) (tt := tYes) (by rfl) scXLooser.nd (pi_seq (pe_ix ix_list (pv 2) pe_int (fun _ _ => rfl))) (blkOk_by (own := [("_law_deed_here", 6)]) (N := nXLooser) (sc := defScope sLLooser) (by decide +kernel))
          (fun _ _ _ _ _ => pg_name (i := 6) scXLooser.nd rfl (.inl rfl)) (fun _ _ _ _ _ => pts_nil) (fun _ _ _ _ _ => (pv 6))) po_none (po_some (pe_call D.G hr2 (by rfl) D.m D.kp D.b .nil pass0 (pa_cons (pv 0) (pa_cons pe_int pa_nil))))) pa_nil)))))) pss_nil)
    (C8.pss_cut (ps_if (PW.pt (pw_and (pt_cmpR op_eq (pv 4) pe_int (nomark _)) (pw_and1 (pt_cmpR op_in_seq (pe_ix ix_list (pv 2) pe_int (fun _ _ => rfl)) (pe_tup (pa_cons pe_str (pa_cons pe_str pa_nil))) (by rfl))))) (pss_one (ps_ret (pe_lst (pa_cons pe_str (pa_cons (pv 5) (pa_cons (pe_lc (own := [("_law_deed_here", 6)]) (g := gName 6) (by rfl) scXLooser.nd (pi_seq (pe_ix ix_list (pv 2) pe_int (fun _ _ => rfl))) (blkOk_by (own := [("_law_deed_here", 6)]) (N := nXLooser) (sc := defScope sLLooser) (by decide +kernel))
          (fun _ _ _ _ _ => pg_name (i := 6) scXLooser.nd rfl (.inl rfl)) (fun _ _ _ _ _ => pts_one (t := tTest (tOp (rIn K false) (tOp (rIxT K) (tVar 6) (tC (.int 0))) (tVar 5))) (pt_cmpR (X := _) (op_inK rfl) (pe_ix (ix_tupK (K := K) rfl) (pv 6) pe_int (fun _ _ => rfl)) (pv 5) (by rfl))) (fun _ _ _ _ _ => (pv 6))) pa_nil)))))) pss_nil)
    (pss_cons (ps_if (pt_cmpR op_eq (pv 4) pe_int (nomark _)) (pss_one (ps_ret (pe_lst (pa_cons pe_str (pa_cons (pe_ifExp (pt_cmpR op_in_seq (pe_ix ix_list (pv 2) pe_int (fun _ _ => rfl)) (pe_tup (pa_cons pe_str (pa_cons pe_str pa_nil))) (by rfl)) (pe_lc (own := [("_law_name", 7)]) (g := gName 7) (by rfl) scXLooser.nd (pi_seq (pe_ix ix_list (pv 2) pe_int (fun _ _ => rfl))) (blkOk_by (own := [("_law_name", 7)]) (N := nXLooser) (sc := defScope sLLooser) (by decide +kernel))
          (fun _ _ _ _ _ => pg_name (i := 7) scXLooser.nd rfl (.inl rfl)) (fun _ _ _ _ _ => pts_one (t := tTest (tOp (rIn K false) (tVar 7) (tVar 5))) (pt_cmpR (X := _) (op_inK rfl) (pv 7) (pv 5) (by rfl))) (fun _ _ _ _ _ => (pv 7))) (pv 5)) (pa_cons (pe_lst pa_nil) pa_nil)))))) pss_nil)
    (pss_cons (ps_if (pt_cmpR op_eq (pv 4) pe_int (nomark _)) (pss_one (ps_ret (pe_call En'.G hr (by rfl) En'.m En'.kp En'.b .nil pass0 (pa_cons (pv 0) (pa_cons (pv 1) (pa_cons (pv 3) (pa_cons pe_int pa_nil))))))) pss_nil)
    (pss_one (ps_ret (pv 2)))))))))), ?_⟩
    have gf := ge.fit
    have f3 := ge.few
    have lt := pr_len h4
    refine ⟨_, rfl, p, q, 6, rfl, M.hp, by decide, by decide, fun way H0 _ _ hp0 k0 => ?_⟩
    have dd0 : Dr H H0 p q := ⟨hp0, k0⟩
    refine ⟨fun σ H1 => ∃ (nl : Addr) (fs : List Str), σ = [some (.ref p), some (.ref c), some (.ref r), some (.ref a), some (.int way), some (.ref nl), none, none] ∧ Dr H H1 p q ∧ wo p H1 nl = some (.lst (fs.map V.str)) ∧ H nl = none ∧ fs.Nodup ∧ (∀ z ∈ fs, z ∈ ks.map (·.1)), ?_, ?_⟩
    · exact ⟨_, rfl, _, rfl, p, q, c, ks, rfl, hp0, M.cu.keep dd0.same, M.gk, fun b fs H' hb0 d' hb nd sub => ⟨b, fs, rfl, dd0.trans d', hb, (dd0.free hb0).1, nd, sub⟩⟩
    rintro σ H1 ⟨nl, fs, rfl, d1, hnl, nl0, nd, sub⟩
    obtain ⟨g1, rp⟩ := wo_get (d1.same _ _ h1)
    obtain ⟨g2, np⟩ := wo_get (d1.same _ _ h2)
    obtain ⟨g3, tp⟩ := wo_get (d1.same _ _ h3)
    obtain ⟨gn, nlp⟩ := wo_get hnl
    have g4 : Paired (Ss .tup (wo p H1)) txs e.told := pr_imp h4 fun _ _ z => z.keep d1.same
    refine ⟨_, rfl, rfl, _, rfl, ?_⟩
    refine ite2 (fun _ => ?_) (fun _ => ?_)
    · refine ⟨Nat.zero_le _, fun n1 hn1 => ⟨Nat.zero_le _, fun n2 hn2 => ⟨(by show 3 ≤ sizeLine; decide), fun n3 hn3 => ?_⟩⟩⟩
      have e1 := d1.new (o := .lst []) hn1
      have e2 := e1.new (o := .lst []) hn2
      have e3 := e2.new (o := .lst [.str "unknown", .ref n1, .ref n2]) hn3
      have s3 := (e2.newS (o := .lst [.str "unknown", .ref n1, .ref n2]) hn3)
      obtain ⟨q1, q2⟩ := ent_both (e := ⟨.unknown, [], []⟩) (xs := []) e3 (e2.free hn3).1 (d1.free hn1).1 (e1.free hn2).1 s3.2 (wo_mono (s3.1) _ _ (wo_mono (e1.newS (o := .lst []) hn2).1 _ _ (d1.newS hn1).2)) (wo_mono s3.1 _ _ (e1.newS hn2).2) .nil
      exact k n3 _ _ e3 q1 (fun L ys hL Lp _ => q2 L ys hL Lp) ⟨⟨fun _ _ => rfl, Nat.zero_le _, fun n hn => (nomatch hn), fun d hd => (nomatch hd), fun _ d hd => (nomatch hd)⟩, .nil, Nat.zero_le _, fun _ => rfl⟩
    refine ⟨_, rfl, rfl, _, rfl, ?_⟩
    refine ite2 (fun _ => ?_) (fun _ => ?_)
    · refine ⟨Nat.zero_le _, fun n1 hn1 => ?_⟩
      have e1 := d1.new (o := .lst []) hn1
      have t1 := e1.same
      have s1 := (d1.newS (o := .lst []) hn1)
      generalize upd H1 n1 (.lst []) = H2 at *
      have n10 := (d1.free hn1).1
      refine ⟨_, rfl, r, _, 2, _, rfl, rfl, SqL.of (s1.1 _ _ g1), rfl, td, rfl, lc_sq (IsSeq.lst (s1.1 _ _ g3)) (Same.refl _) fun L hL => ⟨fun i H3 => Same H2 H3 ∧ H3 L = some (.lst (txs.take i)), ⟨sameUpd (Same.refl _) hL, upd_same⟩, fun i H3 z => z.1, ?_, ?_⟩⟩
      · rintro i x H3 hi ⟨s3, hd⟩
        refine ⟨rfl, ?_⟩
        unfold tYes
        dsimp only
        rw [if_pos rfl]
        refine ⟨_, rfl, _, hd, small1000 (by rw [List.length_take]; omega), woD hL s3 (Same.refl _), ?_⟩
        rw [upd_same, take_succ_of hi]
      · rintro H3 ⟨s3, hd⟩
        rw [List.take_length] at hd
        have e3 := e1.ofS s3
        refine ⟨_, rfl, p, q, 3, rfl, e3.hp, by decide, by decide, fun z H4 z0 z1 hp4 k4 => ⟨_, rfl, L, txs, rfl, SqL.of (k4 _ _ hd (e1.free hL).2.1), fun l hl => ?_⟩⟩
        have e4 := e3.draw k4 hp4
        obtain ⟨m, rfl⟩ : ∃ m : Nat, z = (m : Nat) := ⟨z.toNat, by omega⟩
        rw [cut_takeA]
        have e5 := e4.new (o := .lst (txs.take m)) hl
        have s5 := e4.newS (o := .lst (txs.take m)) hl
        refine ⟨(by show 3 ≤ sizeLine; decide), fun n3 hn3 => ?_⟩
        have e6 := e5.new (o := .lst [.str "holding", .ref n1, .ref l]) hn3
        have s6 := e5.newS (o := .lst [.str "holding", .ref n1, .ref l]) hn3
        have n14 : wo p H4 n1 = some (.lst []) := wo_at (k4 _ _ (s3 _ _ (wo_get s1.2).1) (wo_get s1.2).2) (wo_get s1.2).2
        obtain ⟨q1, q2⟩ := ent_both (e := ⟨.holding, [], e.told.take m⟩) (xs := txs.take m) e6 (e5.free hn3).1 n10 (e4.free hl).1 s6.2 (wo_mono s6.1 _ _ (wo_mono s5.1 _ _ n14)) (wo_mono s6.1 _ _ s5.2) (pr_imp (pr_take h4 m) fun _ _ z => z.keep e6.same)
        exact k n3 _ _ e6 q1 (fun L ys hL Lp _ => q2 L ys hL Lp) ⟨⟨fun _ _ => rfl, by rw [List.length_take]; omega, fun n hn => (nomatch hn), fun d hd => gf.md d (List.mem_of_mem_take hd), fun z => (nomatch z)⟩, .nil, by rw [List.length_take]; omega, fun z => z.elim (fun z => nomatch z) fun z => nomatch z⟩
    refine ⟨fun σ H2 => σ = [some (.ref p), some (.ref c), some (.ref r), some (.ref a), some (.int way), some (.ref nl), none, none] ∧ Same H1 H2, ?_, ?_⟩
    · refine ⟨_, rfl, rfl, _, rfl, ?_⟩
      refine ite2 (fun _ => ?_) (fun _ => ?_)
      · refine ⟨_, rfl, r, _, 0, _, rfl, rfl, SqL.of g1, atI0 _ _, (by show 2 ≤ sizeLine; decide), fun u hu => ⟨u, _, rfl, .inr (SqT.of upd_same), rfl, rfl, _, rfl, ?_⟩⟩
        have e1 := d1.new (o := .tup [.str "known", .str "noted"]) hu
        have s1 := (d1.newS (o := .tup [.str "known", .str "noted"]) hu).1
        rw [if_neg Bool.false_ne_true, word_kn]
        generalize upd H1 u (.tup [.str "known", .str "noted"]) = H2 at *
        refine ite2 (fun _ => ?_) (fun _ => ?_)
        · refine ⟨_, rfl, _, rfl, r, _, 2, _, rfl, rfl, SqL.of (s1 _ _ g1), rfl, td, rfl, lc_sq (IsSeq.lst (s1 _ _ g3)) (Same.refl _) fun L hL => ⟨fun i H3 => Same H2 H3 ∧ ∃ (xs' : List V), H3 L = some (.lst xs') ∧ xs'.length ≤ i ∧ Paired (Ss .tup (wo p H1)) xs' ((e.told.take i).filter fun d => decide (hdOf d ∈ fs)), ⟨sameUpd (Same.refl _) hL, [], upd_same, Nat.le_refl _, .nil⟩, fun i H3 z => z.1, ?_, ?_⟩⟩
          · rintro i x H3 hi ⟨s3, xs', hd, lx, px⟩
            obtain ⟨d, hd', t, rfl, ht⟩ := pr_get g4 hi
            have il := (List.getElem?_eq_some_iff.mp hi).1
            obtain ⟨z, zr, rfl⟩ : ∃ z zr, d = z :: zr := by
              cases d with
              | nil => exact absurd rfl (gf.md [] (List.mem_of_getElem? hd')).ne
              | cons z zr => exact ⟨z, zr, rfl⟩
            have st : ((e.told.take (i + 1)).filter fun d => decide (hdOf d ∈ fs)) = ((e.told.take i).filter fun d => decide (hdOf d ∈ fs)) ++ if z ∈ fs then [z :: zr] else [] := by
              rw [take_succ_of hd', List.filter_append, List.filter_cons, List.filter_nil]
              simp only [decide_eq_true_eq]
              rfl
            refine ⟨rfl, ?_⟩
            refine ⟨_, rfl, t, _, 0, .str z, rfl, rfl, SqT.of (s3 _ _ (s1 _ _ (wo_get ht).1)), atI0 _ _, _, rfl, nl, _, rfl, .inl (SqL.of (s3 _ _ (s1 _ _ gn))), rfl, flat_strs _, _, rfl, ?_⟩
            rw [if_neg Bool.false_ne_true, inV_strs]
            by_cases hm : z ∈ fs
            · rw [decide_eq_true hm]
              rw [if_pos hm] at st
              refine iteT ⟨_, rfl, _, hd, small1000 (by omega), woD hL s3 (Same.refl _), xs' ++ [.ref t], upd_same, by simp; omega, ?_⟩
              rw [st]
              exact pr_app px (.cons ⟨t, rfl, ht⟩ .nil)
            · rw [decide_eq_false hm]
              rw [if_neg hm, List.append_nil] at st
              refine iteF ⟨s3, xs', hd, by omega, ?_⟩
              rw [st]
              exact px
          · rintro H3 ⟨s3, xs', hd, lx, px⟩
            rw [lt, List.take_length] at px
            have e3 := e1.ofS s3
            refine ⟨(by show 3 ≤ sizeLine; decide), fun n3 hn3 => ?_⟩
            have e6 := e3.new (o := .lst [.str "noted", .ref nl, .ref L]) hn3
            have s6 := e3.newS (o := .lst [.str "noted", .ref nl, .ref L]) hn3
            have sH := wo_mono (p := p) (s1.trans (s3.trans s6.1))
            obtain ⟨q1, q2⟩ := ent_both (e := ⟨.noted, fs, e.told.filter fun d => decide (hdOf d ∈ fs)⟩) (xs := xs') e6 (e3.free hn3).1 nl0 (e1.free hL).1 s6.2 (sH _ _ hnl) (wo_mono s6.1 _ _ (wo_at hd (e1.free hL).2.1)) (pr_imp px fun _ _ z => z.keep sH)
            have lf : (e.told.filter fun d => decide (hdOf d ∈ fs)).length ≤ 3 := Nat.le_trans (List.length_filter_le _ _) f3
            exact k n3 _ _ e6 q1 (fun L ys hL Lp _ => q2 L ys hL Lp) ⟨⟨fun _ z => absurd rfl z, Nat.le_trans lf (by decide), sub, fun d hd => gf.md d (List.mem_filter.mp hd).1, fun _ d hd => of_decide_eq_true (List.mem_filter.mp hd).2⟩, nd, lf, fun z => z.elim (fun z => nomatch z) fun z => nomatch z⟩
        · exact ⟨rfl, s1⟩
      · exact iteF ⟨rfl, Same.refl _⟩
    rintro σ H2 ⟨rfl, s12⟩
    refine ⟨_, rfl, rfl, _, rfl, ?_⟩
    have dS := d1.ofS s12
    refine ite2 (fun _ => ?_) (fun _ => ?_)
    · have fin : ∀ (m : Addr) (ms : List Str) (H3 : Hp), Dr H H3 p q → wo p H3 m = some (.lst (ms.map V.str)) → H m = none → ms.Nodup → (∀ z ∈ ms, z ∈ ks.map (·.1)) → ∀ l, H3 l = none → ∀ n3, upd H3 l (.lst []) n3 = none → Q (.ref n3) (upd (upd H3 l (.lst [])) n3 (.lst [.str "without", .ref m, .ref l])) := fun m ms H3 e3 hm m0 nd sub l hl n3 hn3 => by
        have e4 := e3.new (o := .lst []) hl
        have s4 := e3.newS (o := .lst []) hl
        have e5 := e4.new (o := .lst [.str "without", .ref m, .ref l]) hn3
        have s5 := e4.newS (o := .lst [.str "without", .ref m, .ref l]) hn3
        obtain ⟨q1, q2⟩ := ent_both (e := ⟨.without, ms, []⟩) (xs := []) e5 (e4.free hn3).1 m0 (e3.free hl).1 s5.2 (wo_mono s5.1 _ _ (wo_mono s4.1 _ _ hm)) (wo_mono s5.1 _ _ s4.2) .nil
        exact k n3 _ _ e5 q1 (fun L ys hL Lp _ => q2 L ys hL Lp) ⟨⟨fun z => absurd rfl z, Nat.zero_le _, sub, fun d hd => (nomatch hd), fun z => (nomatch z)⟩, nd, Nat.zero_le _, fun _ => rfl⟩
      refine ⟨_, rfl, r, _, 0, _, rfl, rfl, SqL.of (s12 _ _ g1), atI0 _ _, (by show 2 ≤ sizeLine; decide), fun u hu => ⟨u, _, rfl, .inr (SqT.of upd_same), rfl, rfl, _, rfl, ?_⟩⟩
      have e2 := dS.new (o := .tup [.str "without", .str "noted"]) hu
      have s2 := s12.trans (dS.newS (o := .tup [.str "without", .str "noted"]) hu).1
      generalize upd H2 u (.tup [.str "without", .str "noted"]) = H3 at *
      refine ite2 (fun _ => ?_) (fun _ => ?_)
      · refine ⟨_, rfl, r, _, 1, _, rfl, rfl, SqL.of (s2 _ _ g1), rfl, n, rfl, lc_sq (IsSeq.lst (s2 _ _ g2)) (Same.refl _) fun L hL => ⟨fun i H4 => Same H3 H4 ∧ H4 L = some (.lst (((e.names.take i).filter fun z => decide (z ∈ fs)).map V.str)), ⟨sameUpd (Same.refl _) hL, upd_same⟩, fun i H4 z => z.1, ?_, ?_⟩⟩
        · rintro i x H4 hi ⟨s4, hd⟩
          rw [List.getElem?_map] at hi
          obtain ⟨z, hz, rfl⟩ := Option.map_eq_some_iff.mp hi
          have iz := (List.getElem?_eq_some_iff.mp hz).1
          have := ge.few1000 M.gk
          have st : ((e.names.take (i + 1)).filter fun z => decide (z ∈ fs)) = ((e.names.take i).filter fun z => decide (z ∈ fs)) ++ if z ∈ fs then [z] else [] := by
            rw [take_succ_of hz, List.filter_append, List.filter_cons, List.filter_nil]
            simp only [decide_eq_true_eq]
          refine ⟨rfl, ?_⟩
          refine ⟨_, rfl, _, rfl, nl, _, rfl, .inl (SqL.of (s4 _ _ (s2 _ _ gn))), rfl, flat_strs _, _, rfl, ?_⟩
          rw [if_neg Bool.false_ne_true, inV_strs]
          by_cases hm : z ∈ fs
          · rw [decide_eq_true hm]
            rw [if_pos hm] at st
            refine iteT ⟨_, rfl, _, hd, small1000 ?_, woD hL s4 (Same.refl _), ?_⟩
            · rw [List.length_map]
              exact Nat.le_trans (List.length_filter_le _ _) (by rw [List.length_take]; omega)
            · rw [upd_same, st, List.map_append]
              rfl
          · rw [decide_eq_false hm]
            rw [if_neg hm, List.append_nil] at st
            refine iteF ⟨s4, ?_⟩
            rw [st]
            exact hd
        · rintro H4 ⟨s4, hd⟩
          rw [List.length_map, List.take_length] at hd
          exact ⟨Nat.zero_le _, fun l hl => ⟨(by show 3 ≤ sizeLine; decide), fun n3 hn3 => fin L _ H4 (e2.ofS s4) (wo_at hd (e2.free hL).2.1) (e2.free hL).1 (ge.dis.filter _) (fun z hz => gf.nm z (List.mem_filter.mp hz).1) l hl n3 hn3⟩⟩
      · exact ⟨_, rfl, Nat.zero_le _, fun l hl => ⟨(by show 3 ≤ sizeLine; decide), fun n3 hn3 => fin nl fs H3 e2 (wo_mono s2 _ _ hnl) nl0 nd sub l hl n3 hn3⟩⟩
    refine ⟨_, rfl, rfl, _, rfl, ?_⟩
    refine ite2 (fun _ => ?_) (fun _ => ?_)
    · refine ⟨_, rfl, _, rfl, _, rfl, p, q, c, a, ks, ps, 2, rfl, by decide, M.keep dS, fun r1 e1 H3 d3 q1 q2 g => ?_⟩
      exact k r1 e1 H3 (dS.trans d3) q1 (fun L ys hL Lp _ => q2 L ys (dS.kp _ _ hL Lp) Lp) g
    · exact ⟨_, rfl, k r e H2 dS (he0.keep dS.same) (fun L ys hL Lp z => z.keep (hid_keep dS.kp)) ge⟩
end
end Kx

set_option maxHeartbeats 8000000
namespace Kx
open PySem L2
/-! the law's probes; an entry within another -/
def cys : List Str := ["cy", "cy"]
def mkD (ks : List (Str × Int)) (n : Str) : Deed := n :: cys.take (arNum ks n).toNat
theorem mkD_hd (ks : List (Str × Int)) (n : Str) : hdOf (mkD ks n) = n := rfl
theorem arNum_lo {ks : List (Str × Int)} (g : GoodK ks) (n : Str) : 0 ≤ arNum ks n := by
  unfold arNum
  cases h : ks.find? fun r => decide (r.1 = n) with
  | none => exact Int.le_refl _
  | some r => exact (g.each r (List.mem_of_find?_eq_some h)).2.2.1
def spXProbes : Sp := fun vs H Q _ => ∃ (c r : Addr) (ks : List (Str × Int)) (e : En), vs = [.ref c, .ref r] ∧ CusAt H c ks ∧ GoodK ks ∧ EntA H (.ref r) e ∧ e.told.length ≤ 12 ∧ ∀ (b : Addr) (H' : Hp), Same H H' → H b = none → YsA H' b (probesOf (mkD ks) (freeE (ks.map (·.1)) e) e.told) → Q (.ref b) H'
abbrev nXProbes : List Str := ["_law_custom_here", "_law_entry_here", "_law_told", "_law_probes_here", "_law_name", "_law_deed_here"]
def spXWithin : Sp := fun vs H Q _ => ∃ (c r o : Addr) (ks : List (Str × Int)) (e e' : En), vs = [.ref c, .ref r, .ref o] ∧ CusAt H c ks ∧ GoodK ks ∧ EntA H (.ref r) e ∧ EntA H (.ref o) e' ∧ OkE [e, e'] ∧ e.told.length ≤ 11 ∧ ∀ H', Same H H' → Q (.bl (withinP (freeE (ks.map (·.1)) e) e.told (freeE (ks.map (·.1)) e') e'.told)) H'
abbrev nXWithin : List Str := ["_law_custom_here", "_law_one_here", "_law_other", "_law_year"]
theorem free_sub {kn : List Str} {e : En} {n : Str} (h : n ∈ freeE kn e) : n ∈ kn := by
  unfold freeE at h
  split at h
  · cases h
  · exact (List.mem_filter.mp h).1
theorem wo_self {b : Addr} {H : Hp} {o : HO} : Same (wo b H) (wo b (upd H b o)) := fun c u e => by
  obtain ⟨e1, n⟩ := wo_get e
  exact wo_at (by rw [upd_ne n]; exact e1) n
section
variable {P : Program} {w : World} {K : PySem.W.Frag} {mg : Str → Option Value} {base : Heap}
theorem scXProbes : FnScope nXProbes ["_law_custom_here", "_law_entry_here"] (defScope sLProbes) := ⟨rfl, rfl, rfl, by decide +kernel, rfl, by decide +kernel, by decide +kernel⟩
theorem ok_xprobes {f : Addr} {fd : FuncData} (F : Fun K "_law_probes" "_law_probes" sLProbes f fd) (m : mg "_law_probes" = some (.ref f)) (B : Bm mg) (Fr : HasF P w K mg base "_law_free" 1 ["_law_custom_here", "_law_entry_here"] spXFree) (Ar : HasF P w K mg base "_law_arity" 1 ["_law_custom_here", "_law_kind"] spXArity) :
    HasF P w K mg base "_law_probes" 2 ["_law_custom_here", "_law_entry_here"] spXProbes := by
  refine ⟨f, fd, ?_, m, F.kp, F.binds fun _ _ _ _ _ _ us hl => match us, hl with | [_, _], _ => rfl⟩
  obtain ⟨f1, fd1, Fr⟩ := Fr; obtain ⟨f2, fd2, Ar⟩ := Ar
  refine F.ok scXProbes (fun vs H Q E h => ?_) (fun cdv A outer s H vs Q E hr h => ?_)
  · obtain ⟨a, b, c, d, rfl, _⟩ := h
    rfl
  · obtain ⟨c, r, ks, e, rfl, cu, gk, he, l12, k⟩ := h
    obtain ⟨r', n, td, txs, er, h1, h2, h3, h4⟩ := he
    cases er
    have lt := pr_len h4
    refine ⟨_, (C8.pss_cut (ps_setLc (i := 2) (own := [("_law_deed_here", 5)]) (g := gName 5) (tt := tYes) (by rfl) scXProbes.nd rfl rfl (sw_true rfl rfl rfl (by decide +kernel)) (pi_seq (pe_ix ix_list (pv 1) pe_int (fun _ _ => rfl))) (blkOk_by (own := [("_law_deed_here", 5)]) (N := nXProbes) (sc := defScope sLProbes) (by decide +kernel))
          (fun _ _ _ _ _ => pg_name (i := 5) scXProbes.nd rfl (.inl rfl)) (fun _ _ _ _ _ => pts_nil) (fun _ _ _ _ _ => (pe_callTy (call_tupK (K := K) rfl) (by rfl) B.tuple (by decide +kernel) (pa_cons (pv 5) pa_nil))))
    (pss_cons (ps_set (i := 3) scXProbes.nd rfl (Or.inl rfl) (pe_lst (pa_cons (pv 2) pa_nil)))
    (C8.pss_cut (ps_for PassesOwn.never rfl (pi_seq (pe_call Fr.G hr (by rfl) Fr.m Fr.kp Fr.b .nil pass0 (pa_cons (pv 0) (pa_cons (pv 1) pa_nil)))) (pg_name (i := 4) scXProbes.nd rfl (.inl rfl))
        (pss_one (ps_expr (pe_bm PySem.F.plainAttrs_list PySem.F.slot_list_append PySem.F.type_list_append mt_append (pv 3) (pa_cons (pe_op op_cat (pv 2) (pe_lst (pa_cons (pe_callTy call_tuple_of (by rfl) B.tuple (by decide +kernel) (pa_cons (pe_op op_cat (pe_lst (pa_cons (pv 4) pa_nil)) (pe_slice sl_list (pe_lst (pa_cons pe_str (pa_cons pe_str pa_nil))) po_none (po_some (pe_call Ar.G hr (by rfl) Ar.m Ar.kp Ar.b .nil pass0 (pa_cons (pv 0) (pa_cons (pv 4) pa_nil)))))) pa_nil)) pa_nil))) pa_nil)))))
    (pss_one (ps_ret (pv 3)))))), ?_⟩
    refine ⟨fun σ H1 => ∃ tl : Addr, σ = [some (.ref c), some (.ref r), some (.ref tl), none, none, none] ∧ Same H H1 ∧ H1 tl = some (.lst txs) ∧ H tl = none, ?_, ?_⟩
    · refine ⟨_, rfl, r, _, 2, _, rfl, rfl, SqL.of h1, rfl, td, rfl, lc_sq (IsSeq.lst h3) (Same.refl _) fun L hL => ⟨fun i H3 => Same H H3 ∧ H3 L = some (.lst (txs.take i)), ⟨sameUpd (Same.refl _) hL, upd_same⟩, fun i H3 z => z.1, ?_, ?_⟩⟩
      · rintro i x H3 hi ⟨s3, hd⟩
        obtain ⟨d, hd', t, rfl, ht⟩ := pr_get h4 hi
        refine ⟨rfl, ?_⟩
        unfold tYes
        dsimp only
        rw [if_pos rfl]
        refine ⟨_, rfl, t, _, rfl, .inr ⟨SqT.of (s3 _ _ ht), _, hd, small1000 (by rw [List.length_take]; omega), woD hL s3 (Same.refl _), ?_⟩⟩
        rw [upd_same, take_succ_of hi]
      · rintro H3 ⟨s3, hd⟩
        rw [List.take_length] at hd
        exact ⟨L, rfl, s3, hd, hL⟩
    rintro σ H1 ⟨tl, rfl, s1, htl, tl0⟩
    refine ⟨_, rfl, (by show 1 ≤ sizeLine; decide), fun b hb => ?_⟩
    have sb := sameUpd (o := .lst [.ref tl]) s1 hb
    have b0 : H b = none := by
      cases z : H b with
      | none => rfl
      | some o => rw [s1 _ _ z] at hb; cases hb
    have tb : tl ≠ b := ne_of_none htl hb
    have y0 : Yr (wo b (upd H1 b (.lst [.ref tl]))) (.ref tl) e.told := ⟨tl, txs, rfl, wo_at (by rw [upd_ne tb]; exact htl) tb, pr_imp h4 fun x d z => by
      obtain ⟨t, rfl, ht⟩ := z
      have tb : t ≠ b := ne_of_none ht b0
      exact ⟨t, rfl, wo_at (sb _ _ ht) tb⟩⟩
    have tl2 : (upd H1 b (.lst [.ref tl])) tl = some (.lst txs) := by rw [upd_ne tb]; exact htl
    have hb1 : (upd H1 b (.lst [.ref tl])) b = some (.lst [.ref tl]) := upd_same
    generalize upd H1 b (.lst [.ref tl]) = H2 at *
    refine ⟨fun σ H3 => σ[3]? = some (some (.ref b)) ∧ Same H (wo b H3) ∧ ∃ xs, H3 b = some (.lst xs) ∧ Paired (Yr (wo b H3)) xs (probesOf (mkD ks) (freeE (ks.map (·.1)) e) e.told), ?_, ?_⟩
    · refine ⟨_, rfl, _, rfl, c, r, ks, e, rfl, cu.keep sb, ⟨r, n, td, txs, rfl, sb _ _ h1, sb _ _ h2, sb _ _ h3, pr_imp h4 fun _ _ z => z.keep sb⟩, by have := gk.hi; omega, fun fr H3 s3 f0 hf => ?_⟩
      have fb : fr ≠ b := fun z => by rw [z, hb1] at f0; cases f0
      have lf : (freeE (ks.map (·.1)) e).length ≤ 6 := by
        unfold freeE
        split
        · exact Nat.zero_le _
        · exact Nat.le_trans (List.length_filter_le _ _) (by rw [List.length_map]; exact gk.hi)
      have w0 : Same H (wo b H3) := fun u o q => wo_at (s3 _ _ (sb _ _ q)) (ne_of_none q b0)
      refine ⟨fr, rfl, for_sq (K := K) (a := fr) (xs := (freeE (ks.map (·.1)) e).map V.str) (H0 := wo b H3) (IsSeq.lst (wo_at hf fb)) (fun i σ H4 => ∃ (xs : List V) (v4 : Option V), σ = [some (.ref c), some (.ref r), some (.ref tl), some (.ref b), v4, none] ∧ Same (wo b H3) (wo b H4) ∧ H4 b = some (.lst xs) ∧ Paired (Yr (wo b H4)) xs (probesOf (mkD ks) ((freeE (ks.map (·.1)) e).take i) e.told))
        ⟨[.ref tl], none, rfl, Same.refl _, s3 _ _ hb1, .cons (y0.keep (wo_mono s3)) .nil⟩ (fun i σ H4 ⟨_, _, _, s, _⟩ => s.trans wo_same) ?_ ?_⟩
      · rintro i x σ H4 hi ⟨xs, v4, rfl, s4, hb4, px⟩
        rw [List.getElem?_map] at hi
        obtain ⟨z, hz, rfl⟩ := Option.map_eq_some_iff.mp hi
        have iz := (List.getElem?_eq_some_iff.mp hz).1
        have lxs : xs.length ≤ 7 := by
          rw [pr_len px]
          unfold probesOf
          rw [List.length_cons, List.length_map, List.length_take]
          omega
        have s04 : Same H H4 := (w0.trans s4).trans wo_same
        obtain ⟨m, em⟩ : ∃ m : Nat, arNum ks z = (m : Nat) := ⟨(arNum ks z).toNat, by have := arNum_lo gk z; omega⟩
        have tl4 : H4 tl = some (.lst txs) := (wo_get (s4 _ _ (wo_at (s3 _ _ tl2) tb))).1
        refine ⟨_, rfl, .inl ⟨rfl, _, SqL.of hb4⟩, _, rfl, _, rfl, (by show 1 ≤ sizeLine; decide), fun a1 q1 => ⟨(by show 2 ≤ sizeLine; decide), fun a2 q2 => ⟨_, rfl, _, rfl, c, ks, z, rfl, cu.keep (sameUpd (sameUpd s04 q1) q2), fun H5 s5 => ?_⟩⟩⟩
        have r1 := sameUpd (o := .lst [.str z]) (Same.refl H4) q1
        have r2 := sameUpd (o := .lst [.str "cy", .str "cy"]) (Same.refl _) q2
        have g1 := s5 _ _ (r2 _ _ (upd_same (H := H4) (a := a1) (o := .lst [.str z])))
        have g2 := s5 _ _ (upd_same (H := upd H4 a1 (.lst [.str z])) (a := a2) (o := .lst [.str "cy", .str "cy"]))
        have r3 := r1.trans (r2.trans s5)
        refine ⟨_, rfl, a2, _, rfl, SqL.of g2, fun a3 q3 => ?_⟩
        rw [em, cut_takeA]
        have r4 := sameUpd (o := .lst (List.take m [.str "cy", .str "cy"])) (Same.refl H5) q3
        refine ⟨a1, a3, _, _, rfl, rfl, r4 _ _ g1, upd_same, Nat.le_of_lt (small1000 (by rw [List.length_take]; show 1 + min m 2 ≤ 1000; omega)), fun a4 q4 => ?_⟩
        have r5 := sameUpd (o := .lst ([V.str z] ++ List.take m [.str "cy", .str "cy"])) (Same.refl _) q4
        refine ⟨a4, _, rfl, .inl ⟨SqL.of upd_same, fun t ht => ?_⟩⟩
        have r6 := sameUpd (o := .tup ([V.str z] ++ List.take m [.str "cy", .str "cy"])) (Same.refl _) ht
        refine ⟨(by show 1 ≤ sizeLine; decide), fun a5 q5 => ?_⟩
        have r7 := sameUpd (o := .lst [.ref t]) (Same.refl _) q5
        have r37 := r3.trans (r4.trans (r5.trans (r6.trans r7)))
        refine ⟨tl, a5, _, _, rfl, rfl, r37 _ _ tl4, upd_same, Nat.le_of_lt (small1000 (by show txs.length + 1 ≤ 1000; omega)), fun a6 q6 => ?_⟩
        have r8 := sameUpd (o := .lst (txs ++ [.ref t])) (Same.refl _) q6
        have r38 := r37.trans r8
        have a6b : a6 ≠ b := (ne_of_none (r37 _ _ hb4) q6).symm
        have tb' : t ≠ b := (ne_of_none ((r3.trans (r4.trans r5)) _ _ hb4) ht).symm
        have ht' := (r7.trans r8) _ _ (upd_same (a := t) (o := .tup ([V.str z] ++ List.take m [.str "cy", .str "cy"])) (H := upd (upd H5 a3 (.lst (List.take m [.str "cy", .str "cy"]))) a4 (.lst ([V.str z] ++ List.take m [.str "cy", .str "cy"]))))
        refine ⟨b, _, _, rfl, rfl, r38 _ _ hb4, small1000 (by omega), xs ++ [.ref a6], _, rfl, (s4.trans (wo_mono r38)).trans wo_self, upd_same, ?_⟩
        have sC := (wo_mono (p := b) r38).trans (wo_self (b := b) (o := .lst (xs ++ [.ref a6])))
        have ep : probesOf (mkD ks) ((freeE (ks.map (·.1)) e).take (i + 1)) e.told = probesOf (mkD ks) ((freeE (ks.map (·.1)) e).take i) e.told ++ [e.told ++ [mkD ks z]] := by
          unfold probesOf
          rw [take_succ_of hz, List.map_append]
          rfl
        rw [ep]
        have el : ([V.str z] ++ List.take m [V.str "cy", V.str "cy"]) = (mkD ks z).map V.str := by
          unfold mkD
          rw [em, List.map_cons, List.map_take]
          rfl
        refine pr_app (pr_imp px fun _ _ q => q.keep sC) (.cons ⟨a6, txs ++ [.ref t], rfl, ?_, ?_⟩ .nil)
        · exact wo_at (by rw [upd_ne a6b]; exact upd_same) a6b
        · refine pr_app (pr_imp h4 fun x d q => (q.keep (w0.trans s4)).keep sC) (.cons ⟨t, rfl, ?_⟩ .nil)
          exact wo_at (by rw [upd_ne tb', ← el]; exact ht') tb'
      · rintro σ H4 ⟨xs, v4, rfl, s4, hb4, px⟩
        rw [List.length_map, List.take_length] at px
        exact ⟨rfl, w0.trans s4, xs, hb4, px⟩
    rintro σ H3 ⟨e3, s3, xs, hb3, px⟩
    exact ⟨_, e3, k b H3 (s3.trans wo_same) b0 ⟨xs, hb3, pr_imp px fun _ _ z => z.keep wo_same⟩⟩
theorem scXWithin : FnScope nXWithin ["_law_custom_here", "_law_one_here", "_law_other"] (defScope sLWithin) := ⟨rfl, rfl, rfl, by decide +kernel, rfl, by decide +kernel, by decide +kernel⟩
theorem ok_xwithin {f : Addr} {fd : FuncData} (F : Fun K "_law_within" "_law_within" sLWithin f fd) (m : mg "_law_within" = some (.ref f)) (Pr : HasF P w K mg base "_law_probes" 2 ["_law_custom_here", "_law_entry_here"] spXProbes) (Lt : HasF P w K mg base "_law_lets" 2 ["_law_custom_here", "_law_entry_here", "_law_year"] spXLets) :
    HasF P w K mg base "_law_within" 3 ["_law_custom_here", "_law_one_here", "_law_other"] spXWithin := by
  refine ⟨f, fd, ?_, m, F.kp, F.binds fun _ _ _ _ _ _ us hl => match us, hl with | [_, _, _], _ => rfl⟩
  obtain ⟨f1, fd1, Pr⟩ := Pr; obtain ⟨f2, fd2, Lt⟩ := Lt
  refine F.ok scXWithin (fun vs H Q E h => ?_) (fun cdv A outer s H vs Q E hr h => ?_)
  · obtain ⟨a, b, c, d, e, g, rfl, _⟩ := h
    rfl
  · obtain ⟨c, r, o, ks, e, e', rfl, cu, gk, he, ho, ok, l11, k⟩ := h
    obtain ⟨te, oe⟩ := ok.2 e (.head _)
    obtain ⟨to, oo⟩ := ok.2 e' (.tail _ (.head _))
    refine ⟨_, pss_one (ps_ret (pe_cmpR (op_eqL hr.units) (pe_lc (own := [("_law_year", 3)]) (g := gName 3) (te := tVar 3) (by rfl) scXWithin.nd (pi_seq (pe_call Pr.G hr (by rfl) Pr.m Pr.kp Pr.b .nil pass0 (pa_cons (pv 0) (pa_cons (pv 1) pa_nil)))) (blkOk_by (own := [("_law_year", 3)]) (N := nXWithin) (sc := defScope sLWithin) (by decide +kernel))
        (fun _ _ _ _ _ => pg_name (i := 3) scXWithin.nd rfl (.inl rfl)) (fun _ _ _ _ _ => pts_one (pt_not (pt_val (pe_call Lt.G hr (by rfl) Lt.m Lt.kp Lt.b .nil pass0 (pa_cons (pv 0) (pa_cons (pv 2) (pa_cons (pv 3) pa_nil))))))) (fun _ _ _ _ _ => (pv 3))) (pe_lst pa_nil) (nomark _))), ?_⟩
    refine ⟨_, rfl, _, rfl, c, r, ks, e, rfl, cu, gk, he, te, fun b H1 s1 b0 hb => ?_⟩
    obtain ⟨xs, h1, h2⟩ := hb
    have lx := pr_len h2
    have good : ∀ y ∈ probesOf (mkD ks) (freeE (ks.map (·.1)) e) e.told, y.length ≤ 12 ∧ ∀ d ∈ y, d ≠ [] ∧ ∀ z ∈ d, PyData.strOk z = true := fun y hy => by
      unfold probesOf at hy
      rcases List.mem_cons.mp hy with rfl | hy
      · exact ⟨te, oe⟩
      · obtain ⟨n, hn, rfl⟩ := List.mem_map.mp hy
        refine ⟨by rw [List.length_append]; show _ + 1 ≤ 12; omega, fun d hd => ?_⟩
        rcases List.mem_append.mp hd with hd | hd
        · exact oe d hd
        · rw [List.mem_singleton.mp hd]
          refine ⟨(fun z => nomatch z), fun z hz => ?_⟩
          unfold mkD at hz
          rcases List.mem_cons.mp hz with rfl | hz
          · obtain ⟨q, hq, rfl⟩ := List.mem_map.mp (free_sub hn)
            exact lb_ok (gk.each q hq).1
          · have : ∀ z ∈ cys, PyData.strOk z = true := by decide +kernel
            exact this z (List.mem_of_mem_take hz)
    have few : xs.length ≤ 7 := by
      rw [lx]
      unfold probesOf
      rw [List.length_cons, List.length_map]
      have : (freeE (ks.map (·.1)) e).length ≤ 6 := by
        unfold freeE
        split
        · exact Nat.zero_le _
        · exact Nat.le_trans (List.length_filter_le _ _) (by rw [List.length_map]; exact gk.hi)
      omega
    have ew := within_same (mkD_hd ks) (freeE (ks.map (·.1)) e) e.told (freeE (ks.map (·.1)) e') e'.told
    generalize probesOf (mkD ks) (freeE (ks.map (·.1)) e) e.told = ys at *
    refine ⟨b, rfl, lc_filt (g := gName 3) (fun i => match ys[i]? with | some y => !letsL (freeE (ks.map (·.1)) e') e'.told y | none => false) (IsSeq.lst h1) (Same.refl _) (by omega) ?_ ?_⟩
    · intro D i x H3 kt kf hi hD s3 ht kt' kf'
      obtain ⟨y, hy, hY⟩ := pr_get h2 hi
      rw [hy] at kt' kf'
      dsimp only at kt' kf'
      obtain ⟨y', rfl⟩ := hY.ref
      obtain ⟨ty, oy⟩ := good y (List.mem_of_getElem? hy)
      have s4 := s1.trans s3
      have := gk.hi
      refine ⟨rfl, ?_⟩
      refine ⟨_, rfl, _, rfl, _, rfl, c, o, y', ks, e', y, rfl, cu.keep s4, by omega, ho.keep s4, hY.keep s3, ty, by omega, oy, fun d hd => (oo d hd).2, fun H6 s6 => ?_⟩
      refine ⟨_, rfl, ?_⟩
      cases hl : letsL (freeE (ks.map (·.1)) e') e'.told y with
      | true =>
        rw [hl] at kf'
        exact iteF (kf' rfl _ s6)
      | false =>
        rw [hl] at kt'
        exact iteT ⟨_, rfl, kt' rfl _ _ (.inr ⟨_, rfl⟩) s6⟩
    · intro D acc H3 hD s3 hd3 ly ok ey
      refine ⟨Nat.zero_le _, fun l hl => eqL_nil (K := K) (by rw [upd_ne (ne_of_none hd3 hl)]; exact hd3) upd_same ?_⟩
      have k := k _ (s1.trans (sameUpd (o := .lst []) s3 hl))
      have ef : acc.isEmpty = ys.all fun y => letsL (freeE (ks.map (·.1)) e') e'.told y := by
        rw [Bool.eq_iff_iff, List.isEmpty_iff, ey, List.all_eq_true]
        refine ⟨fun q y hy => ?_, fun q i hi => ?_⟩
        · obtain ⟨i, hi⟩ := List.mem_iff_getElem?.mp hy
          have q := q i (by rw [lx]; exact (List.getElem?_eq_some_iff.mp hi).1)
          rw [hi] at q
          dsimp only at q
          cases hl : letsL (freeE (ks.map (·.1)) e') e'.told y with
          | true => rfl
          | false => rw [hl] at q; cases q
        · cases hy : ys[i]? with
          | none => rfl
          | some y =>
            dsimp only
            rw [q y (List.mem_of_getElem? hy)]
            rfl
      rw [ew, ← ef] at k
      exact k
end
end Kx

set_option maxHeartbeats 8000000
namespace Kx
open PySem L2
/-! an abstract within another, by the law -/
theorem pi_seqK {X : Cx} {K : PySem.W.Frag} {tg l : Expr} {tl : TE} (h : X.K = K) (hl : PE X l tl) : PI X tg l (iSeq K tl) := by
  subst h
  exact pi_seq hl
def RowA (W : Hp) (x : V) (ys : List (List Deed)) : Prop := ∃ a, x = .ref a ∧ YsA W a ys
theorem RowA.keep {H H' : Hp} {x : V} {ys : List (List Deed)} (h : RowA H x ys) (s : Same H H') : RowA H' x ys := by
  obtain ⟨a, e, h⟩ := h
  exact ⟨a, e, h.keep s⟩
theorem hid_new0 {D : Addr} {H : Hp} {o : HO} (hD : H D = none) : Same H (wo D (upd H D o)) := fun c u e => by
  have cD := ne_of_none e hD
  exact wo_at (by rw [upd_ne cD]; exact e) cD
/-- a year isn't the list of rows -/
theorem Yr.off {H : Hp} {b y : Addr} {d : List Deed} {x0 : V} {xs : List V} {r : List (List Deed)} (h : Yr H (.ref y) d) (hb : H b = some (.lst (x0 :: xs))) (h0 : RowA (wo b H) x0 r) : Yr (wo b H) (.ref y) d := by
  obtain ⟨y', zs, ey, h1, h2⟩ := h
  cases ey
  have yb : y ≠ b := fun z => by
    rw [z, hb] at h1
    cases h1
    cases h2 with
    | cons s _ =>
      obtain ⟨a, e1, t1⟩ := s
      obtain ⟨a2, e2, xs2, t2, _⟩ := h0
      rw [e1] at e2
      cases e2
      rw [(wo_get t2).1] at t1
      cases t1
  refine ⟨y, zs, rfl, wo_at h1 yb, pr_imp h2 fun x d s => ?_⟩
  obtain ⟨a, e1, t1⟩ := s
  exact ⟨a, e1, wo_at t1 fun z => by rw [z, hb] at t1; cases t1⟩
def rowsPre (base : List (List Deed)) (w : Bool) : List (List (List Deed)) := base :: (if w = true then [] else [[] :: base])
def rowsAt (mk : Str → Deed) (kn : List Str) (es : List En) (k : Nat) : List (List (List Deed)) := match es[k]? with
  | some e => (probesOf mk (freeE kn e) e.told).map fun pr => (es.map (·.told)).set k pr
  | none => []
theorem rows_eq (mk : Str → Deed) (kn : List Str) (es : List En) (w : Bool) : rowsOf mk kn es w = rowsPre (es.map (·.told)) w ++ (List.range es.length).flatMap (rowsAt mk kn es) := rfl
def spXAWithin : Sp := fun vs H Q _ => ∃ (c o1 o2 : Addr) (ks : List (Str × Int)) (es fs : List En) (w1 w2 : Bool), vs = [.ref c, .ref o1, .bl w1, .ref o2, .bl w2] ∧ CusAt H c ks ∧ GoodK ks ∧ EsA H o1 es ∧ EsA H o2 fs ∧ OkE es ∧ OkE fs ∧ es.length ≤ 10 ∧ (∀ e ∈ es, e.told.length ≤ 11) ∧
  ∀ H', Same H H' → Q (.bl (withinA (ks.map (·.1)) es w1 fs w2)) H'
abbrev nXAWithin : List Str := ["_law_custom_here", "_law_one_here", "_law_whole", "_law_other", "_law_other_whole", "_law_entry_here", "_law_base", "_law_rows", "_law_k", "_law_probe", "_law_deed_here", "_law_years_here"]
abbrev scBase : Scope := { kind := ScopeKind.function, names := [(Str.ofString ".0", NameKind.local), (Str.ofString "_law_entry_here", NameKind.local)], isGenerator := false, isCoroutine := false }
theorem probes_good {ks : List (Str × Int)} {e : En} (gk : GoodK ks) (l : e.told.length ≤ 11) (oe : ∀ d ∈ e.told, d ≠ [] ∧ ∀ z ∈ d, PyData.strOk z = true) : ∀ y ∈ probesOf (mkD ks) (freeE (ks.map (·.1)) e) e.told, y.length ≤ 12 ∧ ∀ d ∈ y, d ≠ [] ∧ ∀ z ∈ d, PyData.strOk z = true := fun y hy => by
  unfold probesOf at hy
  rcases List.mem_cons.mp hy with rfl | hy
  · exact ⟨by omega, oe⟩
  · obtain ⟨n, hn, rfl⟩ := List.mem_map.mp hy
    refine ⟨by rw [List.length_append]; show _ + 1 ≤ 12; omega, fun d hd => ?_⟩
    rcases List.mem_append.mp hd with hd | hd
    · exact oe d hd
    · rw [List.mem_singleton.mp hd]
      refine ⟨(fun z => nomatch z), fun z hz => ?_⟩
      unfold mkD at hz
      rcases List.mem_cons.mp hz with rfl | hz
      · obtain ⟨q, hq, rfl⟩ := List.mem_map.mp (free_sub hn)
        exact lb_ok (gk.each q hq).1
      · have : ∀ z ∈ cys, PyData.strOk z = true := by decide +kernel
        exact this z (List.mem_of_mem_take hz)
theorem probes_few {ks : List (Str × Int)} {e : En} (gk : GoodK ks) : (probesOf (mkD ks) (freeE (ks.map (·.1)) e) e.told).length ≤ 7 := by
  unfold probesOf
  rw [List.length_cons, List.length_map]
  have : (freeE (ks.map (·.1)) e).length ≤ 6 := by
    unfold freeE
    split
    · exact Nat.zero_le _
    · exact Nat.le_trans (List.length_filter_le _ _) (by rw [List.length_map]; exact gk.hi)
  omega
theorem fm_few {α β : Type} {f : α → List β} {n : Nat} (h : ∀ a, (f a).length ≤ n) : ∀ as : List α, (as.flatMap f).length ≤ as.length * n
  | [] => by simp
  | a :: as => by
    have ih := fm_few h as
    have := h a
    rw [List.flatMap_cons, List.length_append, List.length_cons, Nat.succ_mul]
    omega
theorem rowsAt_few {ks : List (Str × Int)} {es : List En} (gk : GoodK ks) (k : Nat) : (rowsAt (mkD ks) (ks.map (·.1)) es k).length ≤ 7 := by
  unfold rowsAt
  split
  · rw [List.length_map]
    exact probes_few gk
  · exact Nat.zero_le _
section
variable {P : Program} {w : World} {K : PySem.W.Frag} {mg : Str → Option Value} {base : Heap}
theorem scXAWithin : FnScope nXAWithin ["_law_custom_here", "_law_one_here", "_law_whole", "_law_other", "_law_other_whole"] (defScope sLAbstractWithin) := ⟨rfl, rfl, rfl, by decide +kernel, rfl, by decide +kernel, by decide +kernel⟩
theorem ok_xawithin {f : Addr} {fd : FuncData} (F : Fun K "_law_abstract_within" "_law_abstract_within" sLAbstractWithin f fd) (m : mg "_law_abstract_within" = some (.ref f)) (T : Bl mg) (B : Bm mg) (Pr : HasF P w K mg base "_law_probes" 2 ["_law_custom_here", "_law_entry_here"] spXProbes) (Fi : HasF P w K mg base "_law_fills" 3 ["_law_custom_here", "_law_entries_here", "_law_whole", "_law_years_here"] spXFills) :
    HasF P w K mg base "_law_abstract_within" 4 ["_law_custom_here", "_law_one_here", "_law_whole", "_law_other", "_law_other_whole"] spXAWithin := by
  refine ⟨f, fd, ?_, m, F.kp, F.binds fun _ _ _ _ _ _ us hl => match us, hl with | [_, _, _, _, _], _ => rfl⟩
  obtain ⟨f1, fd1, Pr⟩ := Pr; obtain ⟨f2, fd2, Fi⟩ := Fi
  refine F.ok scXAWithin (fun vs H Q E h => ?_) (fun cdv A outer s H vs Q E hr h => ?_)
  · obtain ⟨a, b, c, d, e, g, i, j, rfl, _⟩ := h
    rfl
  · obtain ⟨c, o1, o2, ks, es, fs, w1, w2, rfl, cu, gk, h1, h2, ok1, ok2, l10, l11, k⟩ := h
    have hr2 : Room 2 _ := hr.mono (by decide)
    refine ⟨_, (C8.pss_cut (ps_setLc (i := 6) (own := [("_law_entry_here", 5)]) (g := gName 5) (tt := tYes) (by rfl) scXAWithin.nd rfl rfl (sw_true rfl rfl rfl (by decide +kernel)) (pi_seq (pv 1)) (blkOk_by (own := [("_law_entry_here", 5)]) (N := nXAWithin) (sc := defScope sLAbstractWithin) (by decide +kernel))
          (fun _ _ _ _ _ => pg_name (i := 5) scXAWithin.nd rfl (.inl rfl)) (fun _ _ _ _ _ => pts_nil) (fun _ _ _ _ _ => (pe_lc (own := [("_law_deed_here", 10)]) (g := gName 10) (tt := tYes) (by rfl) scXAWithin.nd (pi_seqK (K := K) rfl (pe_ix (ix_listK (K := K) rfl) (pv 5) pe_int (fun _ _ => rfl))) (blkOk_by (own := [("_law_deed_here", 10)]) (N := nXAWithin) (sc := scBase) (by decide +kernel))
            (fun _ _ _ _ _ => pg_name (i := 10) scXAWithin.nd rfl (.inl rfl)) (fun _ _ _ _ _ => pts_nil) (fun _ _ _ _ _ => (pe_callTy (call_tupK (K := K) rfl) (by rfl) B.tuple (by decide +kernel) (pa_cons (pv 10) pa_nil))))))
    (C8.pss_cut (ps_set (i := 7) scXAWithin.nd rfl (Or.inl rfl) (pe_ifExp (pt_val (pv 2)) (pe_lst (pa_cons (pv 6) pa_nil)) (pe_lst (pa_cons (pv 6) (pa_cons (pe_op op_cat (pe_lst (pa_cons (pe_lst pa_nil) pa_nil)) (pv 6)) pa_nil)))))
    (C8.pss_cut (ps_for PassesOwn.never rfl (pi_enumB (by rfl) T.enumerate (pa_cons (pv 1) pa_nil)) (pg_tup rfl (pgs_cons (pg_name (i := 8) scXAWithin.nd rfl (.inl rfl)) (pgs_cons (pg_name (i := 5) scXAWithin.nd rfl (.inl rfl)) pgs_nil)))
        (pss_one (ps_for PassesOwn.never rfl (pi_seq (pe_call Pr.G hr2 (by rfl) Pr.m Pr.kp Pr.b .nil pass0 (pa_cons (pv 0) (pa_cons (pv 5) pa_nil)))) (pg_name (i := 9) scXAWithin.nd rfl (.inl rfl))
          (pss_one (ps_expr (pe_bm PySem.F.plainAttrs_list PySem.F.slot_list_append PySem.F.type_list_append mt_append (pv 7) (pa_cons (pe_op op_cat (pe_op op_cat (pe_slice sl_list (pv 6) po_none (po_some (pv 8))) (pe_lst (pa_cons (pv 9) pa_nil))) (pe_slice sl_list (pv 6) (po_some (pe_op op_add (pv 8) pe_int)) po_none)) pa_nil)))))))
    (pss_one (ps_ret (pe_cmpR (op_eqL hr.units) (pe_lc (own := [("_law_years_here", 11)]) (g := gName 11) (te := tVar 11) (by rfl) scXAWithin.nd (pi_seq (pv 7)) (blkOk_by (own := [("_law_years_here", 11)]) (N := nXAWithin) (sc := defScope sLAbstractWithin) (by decide +kernel))
        (fun _ _ _ _ _ => pg_name (i := 11) scXAWithin.nd rfl (.inl rfl)) (fun _ _ _ _ _ => pts_one (pt_not (pt_val (pe_call Fi.G hr (by rfl) Fi.m Fi.kp Fi.b .nil pass0 (pa_cons (pv 0) (pa_cons (pv 3) (pa_cons (pv 4) (pa_cons (pv 11) pa_nil)))))))) (fun _ _ _ _ _ => (pv 11))) (pe_lst pa_nil) (nomark _))))))), ?_⟩
    obtain ⟨exs, e1, e2⟩ := h1
    have lx := pr_len e2
    have lb : (es.map (·.told)).length = es.length := List.length_map ..
    refine ⟨fun σ H1 => ∃ (bl : Addr) (bx : List V), σ = [some (.ref c), some (.ref o1), some (.bl w1), some (.ref o2), some (.bl w2), none, some (.ref bl), none, none, none, none, none] ∧ Same H H1 ∧ H1 bl = some (.lst bx) ∧ Paired (Yr H1) bx (es.map (·.told)), ?_, ?_⟩
    · refine ⟨_, rfl, o1, rfl, lc_pure (g := gName 5) (fun j v H' => ∀ e, es[j]? = some e → Yr H' v e.told) (fun j v H' H'' q s e he => (q e he).keep s) (IsSeq.lst e1) (Same.refl _) (by omega) ?_ ?_ fun x σ H Q Q' q z => q _ _ z⟩
      · rintro D i x H3 k' hi hD s3 ⟨acc, hacc⟩ kk
        obtain ⟨e, he, hE⟩ := pr_get e2 hi
        obtain ⟨r, n, td, txs, rfl, g1, g2, g3, g4⟩ := hE
        have lt := pr_len g4
        have := (ok1.2 e (List.mem_of_getElem? he)).1
        refine ⟨rfl, ?_⟩
        refine ⟨_, rfl, r, _, 2, _, rfl, rfl, SqL.of (s3 _ _ g1), rfl, td, rfl, lc_sq (IsSeq.lst (s3 _ _ g3)) (Same.refl _) fun L hL => ⟨fun i H4 => Same H3 H4 ∧ H4 L = some (.lst (txs.take i)), ⟨sameUpd (Same.refl _) hL, upd_same⟩, fun i H4 z => z.1, ?_, ?_⟩⟩
        · rintro j x H4 hj ⟨s4, hd⟩
          obtain ⟨d, hd', t, rfl, ht⟩ := pr_get g4 hj
          refine ⟨rfl, ?_⟩
          unfold tYes
          dsimp only
          rw [if_pos rfl]
          refine ⟨_, rfl, t, _, rfl, .inr ⟨SqT.of (s4 _ _ (s3 _ _ ht)), _, hd, small1000 (by rw [List.length_take]; omega), woD hL s4 (Same.refl _), ?_⟩⟩
          rw [upd_same, take_succ_of hj]
        · rintro H4 ⟨s4, hd⟩
          rw [List.take_length] at hd
          refine kk _ _ s4 fun e' he' => ?_
          rw [he] at he'
          cases he'
          have LD : L ≠ D := (ne_of_none hacc hL).symm
          refine ⟨L, txs, rfl, wo_at hd LD, pr_imp g4 fun x d z => ?_⟩
          obtain ⟨t, rfl, ht⟩ := z
          exact ⟨t, rfl, wo_at (s4 _ _ (s3 _ _ ht)) (ne_of_none ht hD)⟩
      · intro D zs H3 hD s3 hd3 lz3 g3
        exact ⟨D, zs, rfl, s3, hd3, pr_of (by omega) fun j v d q1 q2 => by
          rw [List.getElem?_map] at q2
          obtain ⟨e, he, rfl⟩ := Option.map_eq_some_iff.mp q2
          exact (g3 j v q1 e he).keep wo_same⟩
    rintro σ H1 ⟨bl, bx, rfl, s1, hbl, pbx⟩
    have lbx := pr_len pbx
    refine ⟨fun σ H2 => ∃ (b : Addr) (xs : List V), σ = [some (.ref c), some (.ref o1), some (.bl w1), some (.ref o2), some (.bl w2), none, some (.ref bl), some (.ref b), none, none, none, none] ∧ H b = none ∧ Same H1 (wo b H2) ∧ H2 b = some (.lst xs) ∧ Paired (RowA (wo b H2)) xs (rowsPre (es.map (·.told)) w1), ?_, ?_⟩
    · have noH : ∀ {l H2}, Same H H2 → H2 l = none → H l = none := fun {l H2} s hl => by
        cases z : H l with
        | none => rfl
        | some o => rw [s _ _ z] at hl; cases hl
      refine ⟨_, rfl, w1, rfl, ?_⟩
      cases w1 with
      | true =>
        refine iteT ⟨_, rfl, (by show 1 ≤ sizeLine; decide), fun l hl => ?_⟩
        have lb : bl ≠ l := ne_of_none hbl hl
        have w := hid_new0 (H := H1) (D := l) (o := .lst [.ref bl]) hl
        exact ⟨l, _, rfl, noH s1 hl, w, upd_same, .cons ⟨bl, rfl, bx, w _ _ hbl, pr_imp pbx fun _ _ z => z.keep w⟩ .nil⟩
      | false =>
        refine iteF ⟨_, rfl, Nat.zero_le _, fun a1 q1 => ⟨(by show 1 ≤ sizeLine; decide), fun a2 q2 => ⟨_, rfl, ?_⟩⟩⟩
        have r1 := sameUpd (o := .lst []) (Same.refl H1) q1
        have r2 := sameUpd (o := .lst [.ref a1]) r1 q2
        have g1 := (sameUpd (o := .lst [.ref a1]) (Same.refl _) q2) _ _ (upd_same (H := H1) (a := a1) (o := .lst []))
        refine ⟨a2, bl, _, _, rfl, rfl, upd_same, r2 _ _ hbl, Nat.le_of_lt (small1000 (by show 1 + bx.length ≤ 1000; omega)), fun a3 q3 => ?_⟩
        have r3 := sameUpd (o := .lst ([.ref a1] ++ bx)) (Same.refl _) q3
        refine ⟨(by show 2 ≤ sizeLine; decide), fun l hl => ?_⟩
        have r23 := r2.trans r3
        have g3 := r3 _ _ g1
        have u3 : (upd (upd (upd H1 a1 (.lst [])) a2 (.lst [.ref a1])) a3 (.lst ([.ref a1] ++ bx))) a3 = some (.lst ([.ref a1] ++ bx)) := upd_same
        generalize upd (upd (upd H1 a1 (.lst [])) a2 (.lst [.ref a1])) a3 (.lst ([.ref a1] ++ bx)) = H4 at *
        have w := hid_new0 (H := H4) (D := l) (o := .lst [.ref bl, .ref a3]) hl
        have sw := r23.trans w
        exact ⟨l, _, rfl, noH (s1.trans r23) hl, sw, upd_same, .cons ⟨bl, rfl, bx, sw _ _ hbl, pr_imp pbx fun _ _ z => z.keep sw⟩ (.cons ⟨a3, rfl, _, w _ _ u3, .cons ⟨a1, [], rfl, w _ _ g3, .nil⟩ (pr_imp pbx fun _ _ z => z.keep sw)⟩ .nil)⟩
    rintro σ H2 ⟨b, xs, rfl, b0, s12, hb2, px2⟩
    have lr : (rowsPre (es.map (·.told)) w1).length ≤ 2 := by
      unfold rowsPre
      cases w1
      · exact Nat.le_refl 2
      · exact Nat.le_succ 1
    refine ⟨fun σ H3 => ∃ (xs : List V) (v5 v8 v9 : Option V), σ = [some (.ref c), some (.ref o1), some (.bl w1), some (.ref o2), some (.bl w2), v5, some (.ref bl), some (.ref b), v8, v9, none, none] ∧ Same H1 (wo b H3) ∧ H3 b = some (.lst xs) ∧ Paired (RowA (wo b H3)) xs (rowsOf (mkD ks) (ks.map (·.1)) es w1), ?_, ?_⟩
    · refine ⟨_, rfl, o1, exs, rfl, for_enumB (K := K) (a := o1) (xs := exs) (fun i σ H3 => ∃ (xs : List V) (v5 v8 v9 : Option V), σ = [some (.ref c), some (.ref o1), some (.bl w1), some (.ref o2), some (.bl w2), v5, some (.ref bl), some (.ref b), v8, v9, none, none] ∧ Same H1 (wo b H3) ∧ H3 b = some (.lst xs) ∧ Paired (RowA (wo b H3)) xs (rowsPre (es.map (·.told)) w1 ++ (List.range i).flatMap (rowsAt (mkD ks) (ks.map (·.1)) es)))
        ⟨xs, none, none, none, rfl, s12, hb2, by simpa using px2⟩ (.inl fun i σ H3 ⟨_, _, _, _, _, s, _⟩ => SqL.of ((wo_get (s _ _ (s1 _ _ e1))).1)) ?_ ?_⟩
      · rintro i x σ H3 t hi ⟨xs, v5, v8, v9, rfl, s3, hb3, px3⟩ ht
        obtain ⟨e, he, hE⟩ := pr_get e2 hi
        obtain ⟨r, rfl⟩ := hE.ref
        have ie := (List.getElem?_eq_some_iff.mp he).1
        have me := List.mem_of_getElem? he
        have tbn : t ≠ b := (ne_of_none hb3 ht).symm
        have w4 : Same (wo b H3) (wo b (upd H3 t (.tup [.int (i : Nat), .ref r]))) := wo_mono (sameUpd (Same.refl _) ht)
        have hb4 : upd H3 t (.tup [.int (i : Nat), .ref r]) b = some (.lst xs) := by rw [upd_ne tbn.symm]; exact hb3
        have ht4 : upd H3 t (.tup [.int (i : Nat), .ref r]) t = some (.tup [.int (i : Nat), .ref r]) := upd_same
        generalize upd H3 t (.tup [.int (i : Nat), .ref r]) = H4 at *
        have sH4 : Same H H4 := (s1.trans (s3.trans w4)).trans wo_same
        refine ⟨t, _, rfl, SqT.of ht4, rfl, _, _, rfl, _, _, rfl, rfl, ?_⟩
        refine ⟨_, rfl, _, rfl, c, r, ks, e, rfl, cu.keep sH4, gk, hE.keep sH4, (ok1.2 e me).1, fun pb H5 s5 p0 hp => ?_⟩
        obtain ⟨pxs, p1, p2⟩ := hp
        have pbb : pb ≠ b := fun z => by rw [z, hb4] at p0; cases p0
        have hb5 := s5 _ _ hb4
        have px5 : Paired (RowA (wo b H5)) xs _ := pr_imp px3 fun _ _ z => z.keep (w4.trans (wo_mono s5))
        have p3 : Paired (Yr (wo b H5)) pxs (probesOf (mkD ks) (freeE (ks.map (·.1)) e) e.told) := by
          obtain ⟨x0, xr, rfl⟩ : ∃ x0 xr, xs = x0 :: xr := by
            cases px5 with
            | cons _ _ => exact ⟨_, _, rfl⟩
          cases px5 with
          | cons h0 _ =>
            refine pr_imp p2 fun y d q => ?_
            obtain ⟨y', rfl⟩ := q.ref
            exact q.off hb5 h0
        have few : pxs.length ≤ 7 := by rw [pr_len p2]; exact probes_few gk
        have ra : rowsAt (mkD ks) (ks.map (·.1)) es i = (probesOf (mkD ks) (freeE (ks.map (·.1)) e) e.told).map fun pr => (es.map (·.told)).set i pr := by
          unfold rowsAt
          rw [he]
        have lpre : (rowsPre (es.map (·.told)) w1 ++ (List.range i).flatMap (rowsAt (mkD ks) (ks.map (·.1)) es)).length ≤ 72 := by
          have := fm_few (rowsAt_few (es := es) gk) (List.range i)
          rw [List.length_range] at this
          rw [List.length_append]
          omega
        have ef : rowsPre (es.map (·.told)) w1 ++ (List.range (i + 1)).flatMap (rowsAt (mkD ks) (ks.map (·.1)) es) = (rowsPre (es.map (·.told)) w1 ++ (List.range i).flatMap (rowsAt (mkD ks) (ks.map (·.1)) es)) ++ rowsAt (mkD ks) (ks.map (·.1)) es i := by
          rw [List.range_succ, List.flatMap_append, List.flatMap_singleton, List.append_assoc]
        rw [ef, ra]
        generalize rowsPre (es.map (·.told)) w1 ++ (List.range i).flatMap (rowsAt (mkD ks) (ks.map (·.1)) es) = R0 at *
        generalize probesOf (mkD ks) (freeE (ks.map (·.1)) e) e.told = prs at *
        have s15 : Same H1 (wo b H5) := s3.trans (w4.trans (wo_mono s5))
        refine ⟨pb, rfl, for_sq (K := K) (a := pb) (xs := pxs) (H0 := wo b H5) (IsSeq.lst (wo_at p1 pbb)) (fun j σ H6 => ∃ (xs : List V) (v9 : Option V), σ = [some (.ref c), some (.ref o1), some (.bl w1), some (.ref o2), some (.bl w2), some (.ref r), some (.ref bl), some (.ref b), some (.int (i : Nat)), v9, none, none] ∧ Same (wo b H5) (wo b H6) ∧ H6 b = some (.lst xs) ∧ Paired (RowA (wo b H6)) xs (R0 ++ (prs.take j).map fun pr => (es.map (·.told)).set i pr))
          ⟨xs, v9, rfl, Same.refl _, hb5, by simpa using px5⟩ (fun j σ H6 ⟨_, _, _, s, _⟩ => s.trans wo_same) ?_ ?_⟩
        · rintro j y σ H6 hj ⟨xs, v9, rfl, s6, hb6, px6⟩
          obtain ⟨pr, hpr, hY⟩ := pr_get p3 hj
          have jy := (List.getElem?_eq_some_iff.mp hj).1
          have lxs : xs.length ≤ 80 := by
            rw [pr_len px6, List.length_append, List.length_map, List.length_take]
            omega
          have s16 := s15.trans s6
          have bl6 := (wo_get (s16 _ _ hbl)).1
          have eC : ((i : Nat) : Int) + 1 = ((i + 1 : Nat) : Int) := by omega
          refine ⟨_, rfl, .inl ⟨rfl, _, SqL.of hb6⟩, _, rfl, _, rfl, _, rfl, bl, _, rfl, SqL.of bl6, fun a1 q1 => ?_⟩
          rw [cut_takeA]
          have r1 := sameUpd (o := .lst (bx.take i)) (Same.refl H6) q1
          refine ⟨_, rfl, (by show 1 ≤ sizeLine; decide), fun a2 q2 => ?_⟩
          have r2 := sameUpd (o := .lst [y]) (Same.refl _) q2
          refine ⟨a1, a2, _, _, rfl, rfl, r2 _ _ upd_same, upd_same, Nat.le_of_lt (small1000 (by rw [List.length_take]; show min i bx.length + 1 ≤ 1000; omega)), fun a3 q3 => ?_⟩
          have r3 := sameUpd (o := .lst (bx.take i ++ [y])) (Same.refl _) q3
          have r13 := r1.trans (r2.trans r3)
          refine ⟨_, rfl, _, rfl, _, _, rfl, rfl, _, rfl, bl, _, rfl, SqL.of (r13 _ _ bl6), fun a4 q4 => ?_⟩
          rw [eC, cut_drop _ _ (by omega)]
          have r4 := sameUpd (o := .lst (bx.drop (i + 1))) (Same.refl _) q4
          refine ⟨a3, a4, _, _, rfl, rfl, r4 _ _ upd_same, upd_same, Nat.le_of_lt (small1000 (by rw [List.length_append, List.length_take, List.length_drop]; show min i bx.length + 1 + (bx.length - (i + 1)) ≤ 1000; omega)), fun a5 q5 => ?_⟩
          have r5 := sameUpd (o := .lst (bx.take i ++ [y] ++ bx.drop (i + 1))) (Same.refl _) q5
          have r15 := r13.trans (r4.trans r5)
          have a5b : a5 ≠ b := (ne_of_none ((r13.trans r4) _ _ hb6) q5).symm
          refine ⟨b, _, _, rfl, rfl, r15 _ _ hb6, small1000 (by omega), xs ++ [.ref a5], _, rfl, (s6.trans (wo_mono r15)).trans wo_self, upd_same, ?_⟩
          have sC := (wo_mono (p := b) r15).trans (wo_self (b := b) (o := .lst (xs ++ [.ref a5])))
          rw [take_succ_of hpr, List.map_append, ← List.append_assoc]
          refine pr_app (pr_imp px6 fun _ _ q => q.keep sC) (.cons ⟨a5, rfl, bx.take i ++ [y] ++ bx.drop (i + 1), wo_at (by rw [upd_ne a5b]; exact upd_same) a5b, ?_⟩ .nil)
          have pb6 : Paired (Yr (wo b _)) bx (es.map (·.told)) := pr_imp pbx fun _ _ q => (q.keep s16).keep sC
          have es1 : (es.map (·.told)).set i pr = (es.map (·.told)).take i ++ [pr] ++ (es.map (·.told)).drop (i + 1) := by
            rw [List.set_eq_take_append_cons_drop, if_pos (by omega), List.append_assoc]
            rfl
          dsimp only
          rw [es1]
          exact pr_app (pr_app (pr_take pb6 i) (.cons ((hY.keep s6).keep sC) .nil)) (pr_drop pb6 (i + 1))
        · rintro σ H6 ⟨xs, v9, rfl, s6, hb6, px6⟩
          rw [pr_len p3, List.take_length] at px6
          exact ⟨xs, _, _, _, rfl, s15.trans s6, hb6, px6⟩
      · rintro σ H3 ⟨xs, v5, v8, v9, rfl, s3, hb3, px3⟩
        rw [lx] at px3
        exact ⟨xs, _, _, _, rfl, s3, hb3, by rw [rows_eq]; exact px3⟩
    rintro σ H3 ⟨xs, v5, v8, v9, rfl, s3, hb3, px3⟩
    have lrows : (rowsOf (mkD ks) (ks.map (·.1)) es w1).length ≤ 72 := by
      rw [rows_eq, List.length_append]
      have := fm_few (rowsAt_few (es := es) gk) (List.range es.length)
      rw [List.length_range] at this
      omega
    have lxs := pr_len px3
    have sH3 : Same H H3 := (s1.trans s3).trans wo_same
    have toldOk : ∀ y ∈ es.map (·.told), y.length ≤ 12 ∧ ∀ d ∈ y, d ≠ [] ∧ ∀ z ∈ d, PyData.strOk z = true := fun y hy => by
      obtain ⟨e, he, rfl⟩ := List.mem_map.mp hy
      exact ok1.2 e he
    have okr : ∀ r ∈ rowsOf (mkD ks) (ks.map (·.1)) es w1, OkL r := fun r hr => by
      rcases mem_rows.mp hr with rfl | ⟨_, rfl⟩ | ⟨k, e, pr, he, hp, rfl⟩
      · exact ⟨by omega, toldOk⟩
      · refine ⟨by rw [List.length_cons]; omega, fun y hy => ?_⟩
        rcases List.mem_cons.mp hy with rfl | hy
        · exact ⟨Nat.zero_le _, fun d hd => nomatch hd⟩
        · exact toldOk y hy
      · refine ⟨by rw [List.length_set]; omega, fun y hy => ?_⟩
        have me := List.mem_of_getElem? he
        rcases List.mem_or_eq_of_mem_set hy with hy | rfl
        · exact toldOk y hy
        · exact probes_good gk (l11 e me) (ok1.2 e me).2 y hp
    have ew := abstract_within_same (mkD_hd ks) (ks.map (·.1)) es w1 fs w2
    generalize rowsOf (mkD ks) (ks.map (·.1)) es w1 = R at *
    have := gk.hi
    refine ⟨_, rfl, b, rfl, lc_filt (g := gName 11) (fun i => match R[i]? with | some y => !fillsA (ks.map (·.1)) fs w2 y | none => false) (IsSeq.lst hb3) (Same.refl _) (by omega) ?_ ?_⟩
    · intro D i x H4 kt kf hi hD s4 hacc kt' kf'
      obtain ⟨y, hy, a, rfl, hY⟩ := pr_get px3 hi
      rw [hy] at kt' kf'
      dsimp only at kt' kf'
      have s5 := sH3.trans s4
      refine ⟨rfl, ?_⟩
      refine ⟨_, rfl, _, rfl, _, rfl, _, rfl, c, o2, a, ks, fs, w2, y, rfl, cu.keep s5, by omega, h2.keep s5, (hY.keep wo_same).keep s4, ok2, okr y (List.mem_of_getElem? hy), fun H6 s6 => ?_⟩
      refine ⟨_, rfl, ?_⟩
      cases hl : fillsA (ks.map (·.1)) fs w2 y with
      | true =>
        rw [hl] at kf'
        exact iteF (kf' rfl _ s6)
      | false =>
        rw [hl] at kt'
        exact iteT ⟨_, rfl, kt' rfl _ _ (.inr ⟨_, rfl⟩) s6⟩
    · intro D acc H4 hD s4 hd4 ly ok ey
      refine ⟨Nat.zero_le _, fun l hl => eqL_nil (K := K) (by rw [upd_ne (ne_of_none hd4 hl)]; exact hd4) upd_same ?_⟩
      have k := k _ (sH3.trans (sameUpd (o := .lst []) s4 hl))
      have ef : acc.isEmpty = R.all fun y => fillsA (ks.map (·.1)) fs w2 y := by
        rw [Bool.eq_iff_iff, List.isEmpty_iff, ey, List.all_eq_true]
        refine ⟨fun q y hy => ?_, fun q i hi => ?_⟩
        · obtain ⟨i, hi⟩ := List.mem_iff_getElem?.mp hy
          have q := q i (by rw [lxs]; exact (List.getElem?_eq_some_iff.mp hi).1)
          rw [hi] at q
          dsimp only at q
          cases hl : fillsA (ks.map (·.1)) fs w2 y with
          | true => rfl
          | false => rw [hl] at q; cases q
        · cases hy : R[i]? with
          | none => rfl
          | some y =>
            dsimp only
            rw [q y (List.mem_of_getElem? hy)]
            rfl
      rw [ew, ← ef] at k
      exact k
end
end Kx

set_option maxHeartbeats 8000000
namespace Kx
open PySem L2
def rsOf (ks : List (Str × Int)) : List (Option (V × V)) := ks.map fun q => some (.str q.1, .int q.2)
theorem scan_none : ∀ {ks : List (Str × Int)} {names : List Str} {i : Nat}, (∀ q ∈ ks, (isLab q.1 = true ∧ ¬ q.1 = Str.ofString "year" ∧ 0 ≤ q.2 ∧ q.2 ≤ 2) ∧ ¬ q.1 ∈ names) → (ks.map (·.1)).Nodup → scanK names i (rsOf ks) = none
  | [], _, _, _, _ => rfl
  | q :: ks, names, i, h, nd => by
    obtain ⟨⟨h1, h2, h3, h4⟩, h5⟩ := h q (.head _)
    rw [List.map_cons, List.nodup_cons] at nd
    have w : rowWord names (some (.str q.1, .int q.2)) = none := by
      show (if isLab q.1 = true then (if q.1 = Str.ofString "year" then some (Str.ofString "year") else if q.1 ∈ names then some (Str.ofString "double") else if wholeV (.int q.2) 0 2 = true then none else some (Str.ofString "arity")) else some (Str.ofString "label")) = none
      rw [if_pos h1, if_neg h2, if_neg h5, if_pos (by simp [wholeV, h3, h4])]
    show (match rowWord names (some (.str q.1, .int q.2)) with | some w => some (i, w) | none => scanK (names ++ [q.1]) (i + 1) (rsOf ks)) = none
    rw [w]
    refine scan_none (fun r hr => ⟨(h r (.tail _ hr)).1, fun hm => ?_⟩) nd.2
    rcases List.mem_append.mp hm with e | e
    · exact (h r (.tail _ hr)).2 e
    · exact nd.1 (List.mem_map.mpr ⟨r, hr, List.mem_singleton.mp e⟩)
theorem good_due {ks : List (Str × Int)} (g : GoodK ks) : rowsDue (some (rsOf ks)) = none := by
  show (if 1 ≤ (rsOf ks).length ∧ (rsOf ks).length ≤ 6 then scanK [] 0 (rsOf ks) else some (0, Str.ofString "rows")) = none
  rw [if_pos (by simp [rsOf]; exact ⟨g.lo, g.hi⟩)]
  exact scan_none (fun q hq => ⟨g.each q hq, by simp⟩) g.nd
theorem rsOf_at {ks : List (Str × Int)} {i : Nat} {q : Str × Int} (h : ks[i]? = some q) : (rsOf ks)[i]? = some (some (V.str q.1, V.int q.2)) := by
  unfold rsOf
  rw [List.getElem?_map, h]
  rfl
theorem rows_of {H : Hp} {xs : List V} {ks : List (Str × Int)} (h : ItemsAt H xs ks) (g : GoodK ks) : AllR H xs (rsOf ks) := by
  refine ⟨by rw [h.1]; simp [rsOf], fun i x r e1 e2 => ?_⟩
  have lt : i < ks.length := by have := (List.getElem?_eq_some_iff.mp e1).1; have := h.1; omega
  have hq : ks[i]? = some ks[i] := List.getElem?_eq_getElem lt
  rw [rsOf_at hq] at e2
  cases e2
  obtain ⟨lab, _, _, _⟩ := g.each _ (List.getElem_mem lt)
  have tn : Thing H (V.str ks[i].1) "str" := ⟨.str _, fun z e => by cases e; exact ⟨(lab_ok lab).1, by have := (lab_ok lab).2; omega⟩⟩
  have ta : Thing H (V.int ks[i].2) "int" := ⟨.int _, fun z e => nomatch e⟩
  obtain ⟨t, rfl, h | h⟩ := h.2 i x _ e1 hq
  · exact .lst h tn ta
  · exact .tup h tn ta
theorem pr_rsOf (ks : List (Str × Int)) : (rsOf ks).map prOf = vv ks := by
  unfold rsOf vv
  rw [List.map_map]
  rfl
theorem KindsAt.wo {C : Addr} {H : Hp} {x p q : Addr} {ps : List (Str × V)} (k : KindsAt C H x ps) (hp : HandAt H p q) : KindsAt C (wo p H) x ps := by
  obtain ⟨cs, a, b, c, ha, hb⟩ := hp
  obtain ⟨dx, fs, r, n, d, ts, h1, h2, h3, h4, h5, h6, h7, h8, h9, h10⟩ := k.ob
  have ne : ∀ {u : Addr} {o : HO}, H u = some o → (∀ xs, o ≠ .lst xs) → u ≠ p := fun h hn e => by rw [e, ha] at h; exact hn _ (Option.some.inj h).symm
  exact ⟨dx, fs, r, n, d, ts, wo_at h1 (ne h1 fun _ z => nomatch z), h2, h3, h4, h5, wo_at h6 (ne h6 fun _ z => nomatch z), h7, fun i t q e1 e2 => wo_at (h8 i t q e1 e2) (ne (h8 i t q e1 e2) fun _ z => nomatch z), wo_at h9 (ne h9 fun _ z => nomatch z), wo_at h10 (ne h10 fun _ z => nomatch z)⟩
theorem yR_inj : ∀ {ys zs : List (List (List Str))}, yR ys = yR zs → ys = zs := by
  have inj : ∀ {α β : Type} {f : α → β}, (∀ a b, f a = f b → a = b) → ∀ {xs ys : List α}, xs.map f = ys.map f → xs = ys := by
    intro α β f hf xs
    induction xs with
    | nil => intro ys e; cases ys with | nil => rfl | cons y ys => cases e
    | cons x xs ih =>
      intro ys e
      cases ys with
      | nil => cases e
      | cons y ys =>
        rw [List.map_cons, List.map_cons] at e
        injection e with e1 e2
        rw [hf _ _ e1, ih e2]
  intro ys zs h
  refine inj (fun a b e => ?_) h
  exact inj (fun a b e => inj (fun a b e => V.str.inj e) (Option.some.inj e)) (Option.some.inj e)
/-- lists of such that fit -/
structure FewY (ys : List (List (List Str))) : Prop where
  n : ys.length ≤ 100
  each : ∀ y ∈ ys, y.length ≤ 100 ∧ ∀ d ∈ y, d.length ≤ 100 ∧ ∀ z ∈ d, Fine z
theorem str_thing {H : Hp} {z : Str} (f : Fine z) : Thing H (.str z) "str" := ⟨.str z, fun y e => by cases e; exact ⟨f.1, Nat.le_trans f.2 (by decide)⟩⟩
theorem strs_things {H : Hp} {d : List Str} (f : ∀ z ∈ d, Fine z) : ∀ x ∈ d.map V.str, ∃ n, Thing H x n := fun x hx => by
  obtain ⟨z, hz, rfl⟩ := List.mem_map.mp hx
  exact ⟨_, str_thing (f z hz)⟩
theorem count_few : ∀ {ys : List (List (List Str))} {n : Nat}, (∀ y ∈ ys, y.length ≤ n) → countD (yR ys) ≤ ys.length * n
  | [], n, _ => by simp [countD, yR]
  | y :: ys, n, h => by
    have ih := count_few (ys := ys) fun y m => h y (.tail _ m)
    have h1 := h y (.head _)
    have e : countD (yR (y :: ys)) = y.length + countD (yR ys) := by simp [countD, yR, lenY, dR]
    rw [e, List.length_cons, Nat.add_mul]
    omega
theorem due_none {ks : List (Str × Int)} {ys : List (List (List Str))} (f : FewY ys) (h : ∀ y ∈ ys, ∀ d ∈ y, deedWord ks (some (d.map V.str)) = none) : yearsDue ks (some (yR ys)) = none := by
  have c := count_few (n := 100) fun y hy => (f.each y hy).1
  have n := f.n
  have ln : (yR ys).length = ys.length := by simp [yR]
  have c2 : ys.length * 100 ≤ 10000 := by omega
  have tm : tooMany (yR ys) = false := by
    unfold tooMany
    rw [decide_eq_false (show ¬ 1000000 < (yR ys).length by omega), decide_eq_false (show ¬ 1000000 < countD (yR ys) by omega)]
    rfl
  have e : yearsDue ks (some (yR ys)) = (if tooMany (yR ys) = true then some (0, 0, Str.ofString "many") else scanY ks 0 (yR ys)) := rfl
  rw [e, tm, if_neg Bool.false_ne_true]
  clear e tm c2 ln n c f
  have go : ∀ {ys : List (List (List Str))} {i : Nat}, (∀ y ∈ ys, ∀ d ∈ y, deedWord ks (some (d.map V.str)) = none) → scanY ks i (yR ys) = none := by
    intro ys
    induction ys with
    | nil => intro i _; rfl
    | cons y ys ih =>
      intro i h
      have yw : yearWord ks (some (dR y)) = none := by
        show scanD ks 0 (dR y) = none
        have hy := h y (.head _)
        clear h ih
        generalize 0 = j
        induction y generalizing j with
        | nil => rfl
        | cons d y ih =>
          show (match deedWord ks (some (d.map V.str)) with | some w => some (j, w) | none => scanD ks (j + 1) (dR y)) = none
          rw [hy d (.head _)]
          exact ih (fun d m => hy d (.tail _ m)) (j + 1)
      show (match yearWord ks (some (dR y)) with | some (i', w) => some (i, i', w) | none => scanY ks (i + 1) (yR ys)) = none
      rw [yw]
      exact ih fun y m => h y (.tail _ m)
  exact go h
theorem GoodK.ok {ks : List (Str × Int)} (g : GoodK ks) : OkK ks := fun q hq => (lab_ok (g.each q hq).1).1
theorem FewY.ok {ys : List (List (List Str))} (f : FewY ys) : OkY ys := fun y hy d hd z hz => (((f.each y hy).2 d hd).2 z hz).1
end Kx


set_option maxHeartbeats 16000000
namespace Kx
open PySem L2
theorem mk_kinds {K : PySem.W.Frag} {C CB : Addr} {ls : List (Str × Int)} {l : Addr} {Hx : Hp} {Q' : Addr → Hp → Prop} (gl : GoodK ls) (h : GoodL Hx l ls) (q' : ∀ x H', Hx x = none → Same Hx H' → KindsAt C H' x (vv ls) → Q' x H') :
    ∀ x dx, Hx x = none → Hx dx = none → dx ≠ x → spKinds K C CB (.ref x :: ([.ref l] ++ [])) (upd (upd Hx dx (.own x)) x (.ins C dx [])) (fun v H2 => v = .non ∧ Q' x H2) (fun _ _ _ => False) := by
  obtain ⟨xs, hx, it⟩ := h
  intro x dx hx0 hdx ne
  have s0 : Same Hx (upd (upd Hx dx (.own x)) x (.ins C dx [])) := (sameUpd (Same.refl _) hdx).trans (sameUpd (Same.refl _) (by rw [upd_ne ne.symm]; exact hx0))
  have ar := rows_of (it.keep s0) gl
  refine ⟨x, dx, .ref l, some (rsOf ls), rfl, upd_same, .lst (s0 _ _ hx) ar (by rw [ar.1]; simp [rsOf]; have := gl.hi; omega), (fun e => by cases e; rw [hx] at hx0; cases hx0), (fun e => by cases e; rw [hx] at hdx; cases hdx), ?_⟩
  rw [good_due gl]
  intro rs H' er kp ka
  cases er
  rw [pr_rsOf] at ka
  exact ⟨rfl, q' x H' hx0 (fun c o e => kp c o (s0 c o e) (ne_of_none e hx0)) ka⟩
/-- History(kinds, years) of good ones -/
theorem mk_hist {K : PySem.W.Frag} {C CK CB kp l : Addr} {ls : List (Str × Int)} {ys : List (List (List Str))} {Hx : Hp} {Q' : Addr → Hp → Prop} (hk : KindsAt CK Hx kp (vv ls)) (kb : kbOk ls) (hy : YearsIs K Hx (.ref l) (some (yR ys))) (due : yearsDue ls (some (yR ys)) = none)
    (q' : ∀ x H', Hx x = none → Same Hx H' → HistAt C CK H' x ls ys → Q' x H') :
    ∀ x dx, Hx x = none → Hx dx = none → dx ≠ x → spHist K C CK CB (.ref x :: ([.ref kp, .ref l] ++ [])) (upd (upd Hx dx (.own x)) x (.ins C dx [])) (fun v H2 => v = .non ∧ Q' x H2) (fun _ _ _ => False) := by
  intro x dx hx0 hdx ne
  refine hist_free hk kb hy due hx0 hdx fun zs H' e s hh => ?_
  have e2 := yR_inj (Option.some.inj e)
  subst e2
  exact ⟨rfl, q' x H' hx0 s hh⟩
theorem years_yr {K : PySem.W.Frag} {H : Hp} : ∀ {xs : List V} {ys : List (List Deed)}, Paired (Yr H) xs ys → (∀ y ∈ ys, y.length ≤ 100 ∧ ∀ d ∈ y, d.length ≤ 100 ∧ ∀ z ∈ d, Fine z) → Paired (YearIs K H) xs (yR ys) := by
  intro xs ys h
  induction h with
  | nil => intro _; exact .nil
  | cons h t ih =>
    rename_i x y xs ys
    intro f
    refine .cons ?_ (ih fun y m => f y (.tail _ m))
    obtain ⟨a, zs, rfl, ha, pz⟩ := h
    obtain ⟨f1, f2⟩ := f y (.head _)
    refine .seq (.lst ha) ?_ (by rw [Paired.length pz]; omega)
    clear ih f f1 ha t
    induction pz with
    | nil => exact .nil
    | cons h t ih =>
      rename_i z d zs ds
      refine .cons ?_ (ih fun d m => f2 d (.tail _ m))
      obtain ⟨b, rfl, hb⟩ := h
      obtain ⟨g1, g2⟩ := f2 d (.head _)
      exact .tup hb (strs_things g2) (by rw [List.length_map]; exact g1)
theorem YsA.years {K : PySem.W.Frag} {H : Hp} {b : Addr} {ys : List (List Deed)} (h : YsA H b ys) (f : FewY ys) : YearsIs K H (.ref b) (some (yR ys)) := by
  obtain ⟨xs, ha, p⟩ := h
  exact .seq (.lst ha) (years_yr p f.each) (by rw [Paired.length p]; have := f.n; omega)
/-- years of made deeds -/
theorem made_few {ks : List (Str × Int)} {ps : List Str} {ys : List (List Deed)} (gk : GoodK ks) (l : ∀ y ∈ ps, Lb y) (n : ys.length ≤ 100) (g : ∀ y ∈ ys, y.length ≤ 100 ∧ ∀ d ∈ y, Made ks ps d) : FewY ys :=
  ⟨n, fun y hy => ⟨(g y hy).1, fun d hd => ⟨by have := (((g y hy).2 d hd).all gk l).2.1; omega, fun z hz => ((((g y hy).2 d hd).all gk l).2.2 z hz).fine⟩⟩⟩
theorem made_due {ks : List (Str × Int)} {ps : List Str} {ys : List (List Deed)} (gk : GoodK ks) (l : ∀ y ∈ ps, Lb y) (n : ys.length ≤ 100) (g : ∀ y ∈ ys, y.length ≤ 100 ∧ ∀ d ∈ y, Made ks ps d) : yearsDue ks (some (yR ys)) = none :=
  due_none (made_few gk l n g) fun y hy d hd => ((g y hy).2 d hd).due gk l
theorem made_ok {ks : List (Str × Int)} {ps : List Str} {y : List Deed} (gk : GoodK ks) (l : ∀ y ∈ ps, Lb y) (g : ∀ d ∈ y, Made ks ps d) : ∀ d ∈ y, d ≠ [] ∧ ∀ z ∈ d, PyData.strOk z = true := fun d hd => ⟨(g d hd).ne, fun z hz => lb_ok (((g d hd).all gk l).2.2 z hz)⟩
theorem Ss.wo {H : Hp} {x : V} {zs : List Str} {p q : Addr} (h : Ss .tup H x zs) (hp : HandAt H p q) : Ss .tup (Kx.wo p H) x zs := by
  obtain ⟨cs, a, b, c, ha, hb⟩ := hp
  obtain ⟨d, e, h⟩ := h
  exact ⟨d, e, wo_at h fun z => by rw [z, ha] at h; cases h⟩
theorem Ds.wo {H : Hp} {x : V} {y : List (List Str)} {p q : Addr} (h : Ds .tup H x y) (hp : HandAt H p q) : Ds .tup (Kx.wo p H) x y := by
  obtain ⟨d, xs, e, h, px⟩ := h
  refine ⟨d, xs, e, wo_at h fun z => ?_, pr_imp px fun _ _ h => h.wo hp⟩
  obtain ⟨cs, a, b, c, ha, hb⟩ := hp
  rw [z, ha] at h; cases h
theorem EnAt.wo {Cs : Ew → Addr} {H : Hp} {t p q : Addr} {e : En} (h : EnAt Cs H t e) (hp : HandAt H p q) : EnAt Cs (Kx.wo p H) t e := by
  obtain ⟨dx, fs, u, n, h1, h2, h3, h4, h5, h6⟩ := h.ex
  have h5 := h5.wo hp
  obtain ⟨cs, a, b, c, ha, hb⟩ := hp
  exact ⟨dx, fs, u, n, wo_at h1 (fun z => by rw [z, ha] at h1; cases h1), h2, h3, h4, h5, wo_at h6 fun z => by rw [z, ha] at h6; cases h6⟩
theorem Und.yr {H H' : Hp} {p q b : Addr} {xs : List V} {ds : List Deed} (u : Und H H' p q b xs) (px : Paired (Ss .tup (hid b p H')) xs ds) : Yr (Kx.wo p H') (.ref b) ds := ⟨b, xs, rfl, wo_at u.at_ u.bp, pr_imp px fun _ _ h => h.keep hid_wo⟩
end Kx

set_option maxHeartbeats 8000000
namespace Kx
open PySem L2
/-! years asked -/
def spXYRight (CK : Addr) : Sp := fun vs H Q _ => ∃ (p q c kp b a : Addr) (ks : List (Str × Int)) (ps : List Str) (es : List En), vs = [.ref p, .ref c, .ref kp, .ref b, .ref a] ∧ Mt H p q c a ks ps ∧ KindsAt CK (wo p H) kp (vv ks) ∧ EsA (wo p H) b es ∧ es.length ≤ 100 ∧ (∀ e ∈ es, GoodEn ks ps e) ∧
  ∀ H', Dr H H' p q → Q (.bl true) H'
abbrev nXYRight : List Str := ["_law_hand_here", "_law_custom_here", "_law_kinds", "_law_entries_here", "_law_persons_here", "_law_entry_here", "_law_thing", "_law_turn", "_law_year", "_law_given", "_law_deed_here"]
section
variable {P : Program} {w : World} {K : PySem.W.Frag} {mg : Str → Option Value} {base : Heap}
theorem scXYRight : FnScope nXYRight ["_law_hand_here", "_law_custom_here", "_law_kinds", "_law_entries_here", "_law_persons_here"] (defScope sLYearsRight) := ⟨rfl, rfl, rfl, by decide +kernel, rfl, by decide +kernel, by decide +kernel⟩
theorem ok_xyright {f CK gL : Addr} {fd fdL : FuncData} {Cs : Ew → Addr} (F : Fun K "_law_years_right" "_law_years_right" sLYearsRight f fd) (m : mg "_law_years_right" = some (.ref f)) (T : Bl mg) (B : Bm mg) (EX : ∀ k, EC K (Cs k)) (LT : LtM P w K mg base Cs CK gL fdL) (Ma : HasF P w K mg base "_law_entry_made" 5 ["_law_entry_here"] (spXMade Cs))
    (Pu : HasF P w K mg base "_law_put_in" 4 ["_law_hand_here", "_law_custom_here", "_law_entry_here", "_law_persons_here", "_law_most"] spXPutIn) (Be : HasF P w K mg base "_law_bent" 5 ["_law_hand_here", "_law_custom_here", "_law_year", "_law_persons_here"] spXBent)
    (Tr : HasF P w K mg base "_law_truth" 1 ["_law_told", "_law_due"] spXTruth) (Lt : HasF P w K mg base "_law_lets" 2 ["_law_custom_here", "_law_entry_here", "_law_year"] spXLets) : HasF P w K mg base "_law_years_right" 6 ["_law_hand_here", "_law_custom_here", "_law_kinds", "_law_entries_here", "_law_persons_here"] (spXYRight CK) := by
  refine ⟨f, fd, ?_, m, F.kp, F.binds fun _ _ _ _ _ _ us hl => match us, hl with | [_, _, _, _, _], _ => rfl⟩
  obtain ⟨f1, fd1, Ma⟩ := Ma; obtain ⟨f2, fd2, Pu⟩ := Pu; obtain ⟨f3, fd3, Be⟩ := Be; obtain ⟨f4, fd4, Tr⟩ := Tr; obtain ⟨f5, fd5, Lt⟩ := Lt
  refine F.ok scXYRight (fun vs H Q E h => ?_) (fun cdv A outer s H vs Q E hr h => ?_)
  · obtain ⟨a, b, c, d, e, g, i, j, l, rfl, _⟩ := h
    rfl
  · obtain ⟨p, q, c, kp, b, a, ks, ps, es, rfl, M, hk, he, le, ge, k⟩ := h
    have hr1 : Room 1 _ := hr.mono (by decide)
    have hr2 : Room 2 _ := hr.mono (by decide)
    have hr3 : Room 3 _ := hr.mono (by decide)
    have hr4 : Room 4 _ := hr.mono (by decide)
    obtain ⟨exs, e1, e2⟩ := he
    have gk := M.gk
    refine ⟨_, (pss_cons (ps_for PassesOwn.never rfl (pi_seq (pv 3)) (pg_name (i := 5) scXYRight.nd rfl (.inl rfl))
        (C8.pss_cut (ps_set (i := 6) scXYRight.nd rfl (Or.inl rfl) (pe_call Ma.G hr (by rfl) Ma.m Ma.kp Ma.b .nil pass0 (pa_cons (pv 5) pa_nil)))
    (pss_one (ps_for PassesOwn.never rfl (pi_range1 (by rfl) T.range (pa_cons pe_int pa_nil)) (pg_name (i := 7) scXYRight.nd rfl (.inl rfl))
            (C8.pss_cut (ps_set (i := 8) scXYRight.nd rfl (Or.inl rfl) (pe_call Be.G hr (by rfl) Be.m Be.kp Be.b .nil pass0 (pa_cons (pv 0) (pa_cons (pv 1) (pa_cons (pe_call Pu.G hr4 (by rfl) Pu.m Pu.kp Pu.b .nil pass0 (pa_cons (pv 0) (pa_cons (pv 1) (pa_cons (pv 5) (pa_cons (pv 4) (pa_cons pe_int pa_nil)))))) (pa_cons (pv 4) pa_nil))))))
    (C8.pss_cut (ps_set (i := 9) scXYRight.nd rfl (Or.inl rfl) (pe_ifExp (pt_cmpR op_eq (pv 7) pe_int (nomark _)) (pv 8) (pe_callTy call_tuple_of (by rfl) B.tuple (by decide +kernel) (pa_cons (pe_lc (own := [("_law_deed_here", 10)]) (g := gName 10) (tt := tYes) (by rfl) scXYRight.nd (pi_seq (pv 8)) (blkOk_by (own := [("_law_deed_here", 10)]) (N := nXYRight) (sc := defScope sLYearsRight) (by decide +kernel))
                (fun _ _ _ _ _ => pg_name (i := 10) scXYRight.nd rfl (.inl rfl)) (fun _ _ _ _ _ => pts_nil) (fun _ _ _ _ _ => (pe_callTy (call_lstK (K := K) rfl) (by rfl) B.list (by decide +kernel) (pa_cons (pv 10) pa_nil)))) pa_nil))))
    (pss_one (ps_if (pt_not (pt_val (pe_call Tr.G hr1 (by rfl) Tr.m Tr.kp Tr.b .nil pass0 (pa_cons (pe_ex (t := fun k : Ew => tMeth (Cs k) "lets" (spLets K Cs CK) [] E0 (tVar 6) (tCons (tVar 2) (tCons (tVar 9) tNil))) (fun k => pe_meth (pv 6) (EX k).cl (LT.M k) LT.G hr3 LT.b .nil pass0 (pa_cons (pv 2) (pa_cons (pv 9) pa_nil)))) (pa_cons (pe_call Lt.G hr2 (by rfl) Lt.m Lt.kp Lt.b .nil pass0 (pa_cons (pv 1) (pa_cons (pv 5) (pa_cons (pv 8) pa_nil)))) pa_nil))))) (pss_one ps_never) pss_nil))))))))
    (pss_one (ps_ret pe_bl))), ?_⟩
    refine ⟨_, rfl, b, rfl, for_sq (K := K) (a := b) (xs := exs) (IsSeq.lst e1) (fun i σ H2 => ∃ v5 v6 v7 v8 v9 : Option V, σ = [some (.ref p), some (.ref c), some (.ref kp), some (.ref b), some (.ref a), v5, v6, v7, v8, v9, none] ∧ Dr H H2 p q) ⟨none, none, none, none, none, rfl, Dr.refl M.hp⟩ (fun i σ H2 ⟨_, _, _, _, _, _, d⟩ => d.same.trans wo_same) ?_ ?_⟩
    · rintro i x σ H2 hi ⟨v5, v6, v7, v8, v9, rfl, d2⟩
      obtain ⟨e, hei, he'⟩ := pr_get e2 hi
      have me := List.mem_of_getElem? hei
      have gE := ge e me
      obtain ⟨r, rfl⟩ := he'.ref
      refine ⟨fun σ H3 => ∃ t : Addr, σ = [some (.ref p), some (.ref c), some (.ref kp), some (.ref b), some (.ref a), some (.ref r), some (.ref t), v7, v8, v9, none] ∧ Dr H H3 p q ∧ EnAt Cs (wo p H3) t e, ?_, ?_⟩
      · exact ⟨_, rfl, r, ks, ps, e, rfl, (he'.keep d2.same).keep wo_same, gE, gk, fun t H3 s3 ht => ⟨t, rfl, d2.ofS s3, ht.wo (d2.hp.same s3)⟩⟩
      rintro σ H3 ⟨t, rfl, d3, ht⟩
      refine ⟨2, rfl, by decide, by decide, for_range (n := 2) (fun j σ H4 => ∃ v7 v8 v9 : Option V, σ = [some (.ref p), some (.ref c), some (.ref kp), some (.ref b), some (.ref a), some (.ref r), some (.ref t), v7, v8, v9, none] ∧ Dr H H4 p q ∧ EnAt Cs (wo p H4) t e) ⟨_, _, _, rfl, d3, ht⟩ ?_ ?_⟩
      · rintro j σ H4 hj ⟨v7, v8, v9, rfl, d4, ht4⟩
        refine ⟨fun σ H5 => ∃ (y : Addr) (ds : List Deed), σ = [some (.ref p), some (.ref c), some (.ref kp), some (.ref b), some (.ref a), some (.ref r), some (.ref t), some (.int ((0 : Int) + (j : Nat))), some (.ref y), v9, none] ∧ Dr H H5 p q ∧ EnAt Cs (wo p H5) t e ∧ Yr (wo p H5) (.ref y) ds ∧ ds.length ≤ 7 ∧ ∀ d ∈ ds, Made ks ps d, ?_, ?_⟩
        · refine ⟨_, rfl, _, rfl, _, rfl, _, rfl, _, rfl, _, rfl, p, q, c, a, r, ks, ps, e, rfl, M.keep d4, he'.keep d4.same, gE.few, gE.fit.md, fun y1 xs1 ds1 H5 u5 px5 l5 m5 => ?_⟩
          refine ⟨_, rfl, p, q, c, a, y1, ks, ps, ds1, rfl, (M.keep d4).keep u5.d, u5.yr px5, l5, m5, fun y2 xs2 ds2 H6 u6 px6 l6 m6 => ?_⟩
          have d46 := u5.d.trans u6.d
          exact ⟨y2, ds2, rfl, d4.trans d46, ht4.keep d46.same, u6.yr px6, l6, m6⟩
        rintro σ H5 ⟨y, ds, rfl, d5, ht5, hy5, l7, md⟩
        have okd := made_ok gk M.fine md
        refine ⟨fun σ H6 => ∃ (g : Addr) (gxs : List V), σ = [some (.ref p), some (.ref c), some (.ref kp), some (.ref b), some (.ref a), some (.ref r), some (.ref t), some (.int ((0 : Int) + (j : Nat))), some (.ref y), some (.ref g), none] ∧ Same H5 H6 ∧ IsSeq K H6 g gxs ∧ Paired (Sx H6) gxs ds, ?_, ?_⟩
        · obtain ⟨y', yxs, ey, y1, y2⟩ := hy5
          cases ey
          have ly := pr_len y2
          have y1' := (wo_get y1).1
          refine ⟨_, rfl, rfl, _, rfl, ?_⟩
          refine ite2 (fun _ => ?_) (fun _ => ?_)
          · exact ⟨_, rfl, y, yxs, rfl, Same.refl _, .lst y1', pr_imp y2 fun _ _ z => .inr (z.keep wo_same)⟩
          · refine ⟨_, rfl, y, rfl, lc_pure (g := gName 10) (fun j v H' => ∀ d, ds[j]? = some d → Ss .lst H' v d) (fun j v H' H'' q s d e => (q d e).keep s) (IsSeq.lst y1') (Same.refl _) (by omega) ?_ ?_ fun x σ H Q Q' q z => q _ _ z⟩
            · rintro D2 j2 x H7 k2 hj2 hD2 s7 ⟨acc2, hacc2⟩ kk2
              obtain ⟨d, hd, tt, rfl, htt⟩ := pr_get y2 hj2
              refine ⟨rfl, ?_⟩
              refine ⟨_, rfl, tt, _, rfl, .inr (SqT.of (s7 _ _ (wo_get htt).1)), fun l hl => kk2 _ _ (sameUpd (Same.refl _) hl) fun d' e => ?_⟩
              rw [hd] at e
              cases e
              exact ⟨l, rfl, wo_at upd_same (ne_of_none hacc2 hl).symm⟩
            · intro D2 zs2 H7 hD2 s7 hd2 lz2 g2
              refine ⟨D2, zs2, rfl, .inl ⟨SqL.of hd2, fun l hl => ?_⟩⟩
              have sl := sameUpd (o := .tup zs2) (Same.refl H7) hl
              exact ⟨l, zs2, rfl, s7.trans sl, .tup upd_same, pr_of (by omega) fun j v d q1 q2 => .inl (((g2 j v q1 d q2).keep wo_same).keep sl)⟩
        rintro σ H6 ⟨g, gxs, rfl, s6, hg, pg⟩
        have d6 := d5.ofS s6
        have s56 := wo_mono (p := p) s6
        have hE6 := (he'.keep d6.same).keep wo_same
        have ok := gE.fit.ok gk M.fine
        obtain ⟨dx, fs, tt, nn, h1, h2, h3, h4, h5, h6⟩ := ((ht5.keep s56).keep wo_same).ex
        have := gk.hi
        refine ⟨e.w, _, rfl, t, dx, fs, rfl, h1, h4 _ (by decide +kernel) (by decide +kernel), _, rfl, _, rfl, t, kp, g, ks, e, gxs, ds, rfl, (ht5.keep s56).keep wo_same, ok, (hk.keep d6.same).keep wo_same, by omega, hg, pg, by omega, okd, fun H7 s7 => ?_⟩
        refine ⟨_, rfl, _, rfl, _, rfl, c, r, y, ks, e, ds, rfl, ((M.cu.keep d6.same).keep wo_same).keep s7, by omega, hE6.keep s7, (hy5.keep (wo_same.trans s6)).keep s7, by omega, by have := gE.few; omega, okd, ok.ok, fun H8 s8 => ?_⟩
        refine ⟨_, _, rfl, ?_⟩
        rw [lets_same, beq_self_eq_true]
        have s68 := s7.trans s8
        exact ⟨_, rfl, iteF ⟨_, _, _, rfl, d6.ofS s68, ht5.keep (s56.trans (wo_mono s68))⟩⟩
      · rintro σ H4 ⟨v7, v8, v9, rfl, d4, _⟩
        exact ⟨_, _, _, _, _, rfl, d4⟩
    · rintro σ H2 ⟨v5, v6, v7, v8, v9, rfl, d2⟩
      exact k H2 d2
end
end Kx

set_option maxHeartbeats 8000000
namespace Kx
open PySem L2
/-! histories asked -/
theorem AbsAt.wo {CA CK : Addr} {Cs : Ew → Addr} {H : Hp} {x p q : Addr} {ks : List (Str × Int)} {es : List En} {w : Bool} (h : AbsAt CA CK Cs H x ks es w) (hp : HandAt H p q) : AbsAt CA CK Cs (Kx.wo p H) x ks es w := by
  obtain ⟨dx, fs, kp, yt, xs, h1, h2, h3, h4, h5, h6, h7, h8⟩ := h.ex
  have h6 := h6.wo hp
  have h8 : Paired (EnV Cs (Kx.wo p H)) xs es := pr_imp h8 fun x e z => by
    obtain ⟨t, rfl, ht⟩ := z
    exact ⟨t, rfl, ht.wo hp⟩
  obtain ⟨cs, a, b, c, ha, hb⟩ := hp
  exact ⟨dx, fs, kp, yt, xs, wo_at h1 (fun z => by rw [z, ha] at h1; cases h1), h2, h3, h4, h5, h6, wo_at h7 (fun z => by rw [z, ha] at h7; cases h7), h8⟩
def spXFRight (CA CK : Addr) (Cs : Ew → Addr) : Sp := fun vs H Q _ => ∃ (p q c kp b ab a : Addr) (ks : List (Str × Int)) (ps : List Str) (es : List En) (wh : Bool), vs = [.ref p, .ref c, .ref kp, .ref b, .bl wh, .ref ab, .ref a] ∧ Mt H p q c a ks ps ∧ KindsAt CK (wo p H) kp (vv ks) ∧ EsA (wo p H) b es ∧ es.length ≤ 4 ∧ (∀ e ∈ es, GoodEn ks ps e) ∧ AbsAt CA CK Cs (wo p H) ab ks es wh ∧
  ∀ H', Dr H H' p q → Q (.bl true) H'
abbrev nXFRight : List Str := ["_law_hand_here", "_law_custom_here", "_law_kinds", "_law_entries_here", "_law_whole", "_law_made", "_law_persons_here", "_law_turn", "_law_years_here", "_law_way", "_law_place"]
/-- a method of an abstract that may raise -/
structure AbM (P : Program) (w : World) (K : PySem.W.Frag) (mg : Str → Option Value) (base : Heap) (C : Addr) (m : Str) (k : Nat) (ps : List Str) (sp : Sp) (g : Addr) (fd : FuncData) : Prop where
  M : Meth K C m g
  G : FnOk P w K mg base (L2.CX P w) k g fd ps sp
  b : Binds K fd ps []
/-- an own class whose __init__ may raise -/
structure MkM (P : Program) (w : World) (K : PySem.W.Frag) (mg : Str → Option Value) (base : Heap) (C : Addr) (x : Str) (k : Nat) (ps : List Str) (sp : Sp) (g : Addr) (fd : FuncData) : Prop where
  M : Mk K C g
  G : FnOk P w K mg base (L2.CX P w) k g fd ps sp
  m : mg x = some (.ref C)
  b : Binds K fd ps []
section
variable {P : Program} {w : World} {K : PySem.W.Frag} {mg : Str → Option Value} {base : Heap}
theorem scXFRight : FnScope nXFRight ["_law_hand_here", "_law_custom_here", "_law_kinds", "_law_entries_here", "_law_whole", "_law_made", "_law_persons_here"] (defScope sLFillsRight) := ⟨rfl, rfl, rfl, by decide +kernel, rfl, by decide +kernel, by decide +kernel⟩
theorem ok_xfright {f CA C CK CO CB gF gH : Addr} {fd fdF fdH : FuncData} {Cs : Ew → Addr} (F : Fun K "_law_fills_right" "_law_fills_right" sLFillsRight f fd) (m : mg "_law_fills_right" = some (.ref f)) (T : Bl mg) (AX : AC K CA) (MF : AbM P w K mg base CA "fills" 4 ["self", "history"] (spFills CA C CK CO Cs) gF fdF)
    (MH : MkM P w K mg base C "History" 4 ["self", "kinds", "years"] (spHist K C CK CB) gH fdH) (D : HasF P w K mg base "_law_draw" 2 ["_law_hand_here", "_law_many"] spDraw) (Fg : HasF P w K mg base "_law_filling" 6 ["_law_hand_here", "_law_custom_here", "_law_entries_here", "_law_whole", "_law_persons_here"] spXFilling)
    (Be : HasF P w K mg base "_law_bent" 5 ["_law_hand_here", "_law_custom_here", "_law_year", "_law_persons_here"] spXBent) (Tr : HasF P w K mg base "_law_truth" 1 ["_law_told", "_law_due"] spXTruth) (Fi : HasF P w K mg base "_law_fills" 3 ["_law_custom_here", "_law_entries_here", "_law_whole", "_law_years_here"] spXFills) :
    HasF P w K mg base "_law_fills_right" 7 ["_law_hand_here", "_law_custom_here", "_law_kinds", "_law_entries_here", "_law_whole", "_law_made", "_law_persons_here"] (spXFRight CA CK Cs) := by
  refine ⟨f, fd, ?_, m, F.kp, F.binds fun _ _ _ _ _ _ us hl => match us, hl with | [_, _, _, _, _, _, _], _ => rfl⟩
  obtain ⟨f2, fd2, D⟩ := D; obtain ⟨f1, fd1, Fg⟩ := Fg; obtain ⟨f3, fd3, Be⟩ := Be; obtain ⟨f4, fd4, Tr⟩ := Tr; obtain ⟨f5, fd5, Fi⟩ := Fi
  refine F.ok scXFRight (fun vs H Q E h => ?_) (fun cdv A outer s H vs Q E hr h => ?_)
  · obtain ⟨a, b, c, d, e, g, i, j, l, n, o, rfl, _⟩ := h
    rfl
  · obtain ⟨p, q, c, kp, b, ab, a, ks, ps, es, wh, rfl, M, hk, he, le, ge, hab, k⟩ := h
    have hr1 : Room 1 _ := hr.mono (by decide)
    have hr2 : Room 2 _ := hr.mono (by decide)
    have hr3 : Room 3 _ := hr.mono (by decide)
    have hr4 : Room 4 _ := hr.mono (by decide)
    have hr5 : Room 5 _ := hr.mono (by decide)
    have gk := M.gk
    refine ⟨_, (pss_cons (ps_for PassesOwn.never rfl (pi_range1 (by rfl) T.range (pa_cons pe_int pa_nil)) (pg_name (i := 7) scXFRight.nd rfl (.inl rfl))
        (pss_cons (ps_set (i := 8) scXFRight.nd rfl (Or.inl rfl) (pe_call Fg.G hr (by rfl) Fg.m Fg.kp Fg.b .nil pass0 (pa_cons (pv 0) (pa_cons (pv 1) (pa_cons (pv 3) (pa_cons (pv 4) (pa_cons (pv 6) pa_nil)))))))
    (C8.pss_cut (ps_set (i := 9) scXFRight.nd rfl (Or.inl rfl) (pe_call D.G hr2 (by rfl) D.m D.kp D.b .nil pass0 (pa_cons (pv 0) (pa_cons pe_int pa_nil))))
    (C8.pss_cut (ps_if (PW.pt (pw_and (pt_cmpR op_eq (pv 9) pe_int (nomark _)) (pw_and1 (pt_cmpR (op_neL hr.units) (pv 8) (pe_lst pa_nil) (nomark _))))) (pss_cons (ps_set (i := 10) scXFRight.nd rfl (Or.inl rfl) (pe_call D.G hr2 (by rfl) D.m D.kp D.b .nil pass0 (pa_cons (pv 0) (pa_cons (pe_callB call_len_seq (by rfl) T.len PySem.boot_len (pa_cons (pv 8) pa_nil)) pa_nil))))
    (pss_one (ps_asg (pe_call Be.G hr5 (by rfl) Be.m Be.kp Be.b .nil pass0 (pa_cons (pv 0) (pa_cons (pv 1) (pa_cons (pe_ix ix_list (pv 8) (pv 10) (fun _ _ => rfl)) (pa_cons (pv 6) pa_nil))))) (pg_sub (pv 8) (pv 10) set_list)))) pss_nil)
    (C8.pss_cut (ps_if (pt_cmpR op_eq (pv 9) pe_int (nomark _)) (pss_one (ps_set (i := 8) scXFRight.nd rfl (Or.inl rfl) (pe_slice sl_list (pv 8) (po_some pe_int) po_none))) pss_nil)
    (C8.pss_cut (ps_if (pt_cmpR op_eq (pv 9) pe_int (nomark _)) (pss_one (ps_set (i := 8) scXFRight.nd rfl (Or.inl rfl) (pe_op op_cat (pe_lst (pa_cons (pe_lst pa_nil) pa_nil)) (pv 8)))) pss_nil)
    (pss_one (ps_if (pt_not (pt_val (pe_call Tr.G hr1 (by rfl) Tr.m Tr.kp Tr.b .nil pass0 (pa_cons (pe_meth (pv 5) AX.cl MF.M MF.G hr4 MF.b .nil passL (pa_cons (pe_make MH.M MH.G hr5 (by rfl) MH.m MH.b .nil passL (pa_cons (pv 2) (pa_cons (pv 8) pa_nil))) pa_nil)) (pa_cons (pe_call Fi.G hr3 (by rfl) Fi.m Fi.kp Fi.b .nil pass0 (pa_cons (pv 1) (pa_cons (pv 3) (pa_cons (pv 4) (pa_cons (pv 8) pa_nil))))) pa_nil))))) (pss_one ps_never) pss_nil))))))))
    (pss_one (ps_ret pe_bl))), ?_⟩
    refine ⟨3, rfl, by decide, by decide, for_range (n := 3) (fun i σ H2 => ∃ v7 v8 v9 v10 : Option V, σ = [some (.ref p), some (.ref c), some (.ref kp), some (.ref b), some (.bl wh), some (.ref ab), some (.ref a), v7, v8, v9, v10] ∧ Dr H H2 p q) ⟨none, none, none, none, rfl, Dr.refl M.hp⟩ ?_ ?_⟩
    · rintro i σ H2 hi ⟨v7, v8, v9, v10, rfl, d2⟩
      refine ⟨_, rfl, _, rfl, _, rfl, _, rfl, _, rfl, p, q, c, a, b, ks, ps, es, wh, rfl, M.keep d2, he.keep d2.same, le, ge, fun l xs ys H3 u3 px3 l3 g3 => ?_⟩
      refine ⟨fun σ H4 => ∃ (z : Int), σ = [some (.ref p), some (.ref c), some (.ref kp), some (.ref b), some (.bl wh), some (.ref ab), some (.ref a), some (.int ((0 : Int) + (i : Nat))), some (.ref l), some (.int z), v10] ∧ Und H2 H4 p q l xs ∧ Paired (Yr (hid l p H4)) xs ys, ?_, ?_⟩
      · refine ⟨_, rfl, p, q, 4, rfl, u3.d.hp, by decide, by decide, fun z H4 _ _ hp4 k4 => ?_⟩
        have d4 : Dr H3 H4 p q := ⟨hp4, k4⟩
        exact ⟨z, rfl, u3.dr d4, pr_imp px3 fun _ _ h => h.keep (u3.kh d4)⟩
      rintro σ H4 ⟨z, rfl, u4, px4⟩
      have lx := pr_len px4
      refine ⟨fun σ H5 => ∃ (ys : List (List Deed)) (v10 : Option V), σ = [some (.ref p), some (.ref c), some (.ref kp), some (.ref b), some (.bl wh), some (.ref ab), some (.ref a), some (.int ((0 : Int) + (i : Nat))), some (.ref l), some (.int z), v10] ∧ Dr H2 H5 p q ∧ YsA (wo p H5) l ys ∧ ys.length ≤ 7 ∧ ∀ y ∈ ys, y.length ≤ 7 ∧ ∀ d ∈ y, Made ks ps d, ?_, ?_⟩
      · have g7 : ∀ y ∈ ys, y.length ≤ 7 ∧ ∀ d ∈ y, Made ks ps d := fun y hy => ⟨by have := (g3 y hy).1; omega, (g3 y hy).2⟩
        refine ⟨_, rfl, rfl, _, rfl, ?_⟩
        refine ite2 (fun _ => ?_) (fun _ => iteF ⟨ys, _, rfl, u4.d, ⟨xs, wo_at u4.at_ u4.bp, pr_imp px4 fun _ _ h => h.keep hid_wo⟩, l3, g7⟩)
        refine ⟨_, rfl, Nat.zero_le _, fun n hn => ne_nil (K := K) (by rw [upd_ne (ne_of_none u4.at_ hn)]; exact u4.at_) (fun z hz => ?_) n upd_same ⟨_, rfl, ?_⟩⟩
        · obtain ⟨i, hi⟩ := List.mem_iff_getElem?.mp hz
          obtain ⟨_, _, hY⟩ := pr_get px4 hi
          obtain ⟨t, rfl⟩ := hY.ref
          exact .inr ⟨t, rfl⟩
        obtain ⟨u5, _, _, _, s5⟩ := u4.new (o := .lst []) hn
        have px5 : Paired (Yr (hid l p (upd H4 n (.lst [])))) xs ys := pr_imp px4 fun _ _ z => z.keep s5
        generalize upd H4 n (.lst []) = H5 at u5 px5 ⊢
        cases xe : xs.isEmpty with
        | true => exact iteF ⟨ys, _, rfl, u5.d, ⟨xs, wo_at u5.at_ u5.bp, pr_imp px5 fun _ _ h => h.keep hid_wo⟩, l3, g7⟩
        | false =>
          have lpos : 0 < xs.length := by
            cases xs with
            | nil => cases xe
            | cons _ _ => exact Nat.succ_pos _
          refine iteT ⟨_, rfl, _, rfl, l, _, rfl, .inl (SqL.of u5.at_), p, q, _, rfl, u5.d.hp, by omega, Nat.lt_of_le_of_lt (show ((xs.length : Nat) : Int).natAbs ≤ 7 by omega) (by decide), fun j H6 j0 j1 hp6 k6 => ?_⟩
          have d6 : Dr H5 H6 p q := ⟨hp6, k6⟩
          have u6 := u5.dr d6
          have px6 : Paired (Yr (hid l p H6)) xs ys := pr_imp px5 fun _ _ h => h.keep (u5.kh d6)
          obtain ⟨m, rfl⟩ : ∃ m : Nat, j = (m : Nat) := ⟨j.toNat, by omega⟩
          have hm : xs[m]? = some (xs[m]'(by omega)) := List.getElem?_eq_getElem _
          obtain ⟨y, hy, hY⟩ := pr_get px6 hm
          obtain ⟨y', ey⟩ := hY.ref
          rw [ey] at hm hY
          have my := List.mem_of_getElem? hy
          refine ⟨_, rfl, _, rfl, _, rfl, _, rfl, l, xs, _, _, rfl, rfl, SqL.of u6.at_, atI_nat hm, _, rfl, p, q, c, a, y', ks, ps, y, rfl, (M.keep d2).keep u6.d, hY.keep hid_wo, (g3 y my).1, (g3 y my).2, fun b' zs ds H7 u7 px7 l7 m7 => ?_⟩
          have u67 := u6.dr u7.d
          have lb : l ≠ b' := fun z => by have := u7.b0; rw [← z, u6.at_] at this; cases this
          refine ⟨_, rfl, _, rfl, l, xs, _, m, rfl, rfl, u67.at_, ixN_nat (by omega), ?_⟩
          have u8 := u67.set (ys := xs.set m (.ref b'))
          have sC := (u6.kh u7.d).trans (hid_b (b := l) (p := p) (o := .lst (xs.set m (.ref b'))))
          refine ⟨ys.set m ds, _, rfl, u8.d, ⟨_, wo_at u8.at_ u8.bp, ?_⟩, by rw [List.length_set]; exact l3, fun y2 hy2 => ?_⟩
          · refine pr_imp (pr_set (F := Yr (hid l p (upd H7 l (.lst (xs.set m (.ref b')))))) ?_ (pr_imp px6 fun _ _ h => h.keep sC) m) fun _ _ h => h.keep hid_wo
            exact ⟨b', zs, rfl, hid_b _ _ (hid_at u7.at_ lb.symm u7.bp), pr_imp px7 fun _ _ z => ((z.keep hid_wo).hidL u67.at_).keep hid_b⟩
          · rcases List.mem_or_eq_of_mem_set hy2 with hy2 | rfl
            · exact g7 y2 hy2
            · exact ⟨l7, m7⟩
      rintro σ H5 ⟨ys, v10, rfl, d5, hy5, l5, g5⟩
      refine ⟨fun σ H6 => ∃ (l : Addr) (ys : List (List Deed)), σ = [some (.ref p), some (.ref c), some (.ref kp), some (.ref b), some (.bl wh), some (.ref ab), some (.ref a), some (.int ((0 : Int) + (i : Nat))), some (.ref l), some (.int z), v10] ∧ Dr H2 H6 p q ∧ YsA (wo p H6) l ys ∧ ys.length ≤ 7 ∧ ∀ y ∈ ys, y.length ≤ 7 ∧ ∀ d ∈ y, Made ks ps d, ?_, ?_⟩
      · refine ⟨_, rfl, rfl, _, rfl, ?_⟩
        refine ite2 (fun _ => ?_) (fun _ => ⟨l, ys, rfl, d5, hy5, l5, g5⟩)
        obtain ⟨xs, y1, y2⟩ := hy5
        refine ⟨_, rfl, _, rfl, l, xs, rfl, SqL.of (wo_get y1).1, fun l2 hl2 => ?_⟩
        have lx := pr_len y2
        have e1 : cutV xs (some 1) none = xs.drop 1 := by
          cases xs with
          | nil => rfl
          | cons x xs => rw [cut1]; rfl
        rw [e1]
        have s6 := d5.newS (o := .lst (xs.drop 1)) hl2
        exact ⟨l2, ys.drop 1, rfl, d5.new hl2, ⟨_, s6.2, pr_imp (pr_drop y2 1) fun _ _ h => h.keep (wo_mono s6.1)⟩, by rw [List.length_drop]; omega, fun y hy => g5 y (List.mem_of_mem_drop hy)⟩
      rintro σ H6 ⟨l, ys, rfl, d6, hy6, l6, g6⟩
      refine ⟨fun σ H7 => ∃ (l : Addr) (ys : List (List Deed)), σ = [some (.ref p), some (.ref c), some (.ref kp), some (.ref b), some (.bl wh), some (.ref ab), some (.ref a), some (.int ((0 : Int) + (i : Nat))), some (.ref l), some (.int z), v10] ∧ Dr H2 H7 p q ∧ YsA (wo p H7) l ys ∧ ys.length ≤ 8 ∧ ∀ y ∈ ys, y.length ≤ 7 ∧ ∀ d ∈ y, Made ks ps d, ?_, ?_⟩
      · refine ⟨_, rfl, rfl, _, rfl, ?_⟩
        refine ite2 (fun _ => ?_) (fun _ => ⟨l, ys, rfl, d6, hy6, by omega, g6⟩)
        obtain ⟨xs, y1, y2⟩ := hy6
        have lx := pr_len y2
        refine ⟨Nat.zero_le _, fun a1 q1 => ⟨(by show 1 ≤ sizeLine; decide), fun a2 q2 => ⟨_, rfl, ?_⟩⟩⟩
        have n1 := d6.newS (o := .lst []) q1
        have e1 := d6.new (o := .lst []) q1
        have n2 := e1.newS (o := .lst [.ref a1]) q2
        have e2 := e1.new (o := .lst [.ref a1]) q2
        refine ⟨a2, l, _, _, rfl, rfl, upd_same, n2.1 _ _ (n1.1 _ _ (wo_get y1).1), Nat.le_of_lt (small1000 (by show 1 + xs.length ≤ 1000; omega)), fun a3 q3 => ?_⟩
        have n3 := e2.newS (o := .lst ([.ref a1] ++ xs)) q3
        have s3 := wo_mono (p := p) (n1.1.trans (n2.1.trans n3.1))
        exact ⟨a3, [] :: ys, rfl, e2.new q3, ⟨_, n3.2, .cons ⟨a1, [], rfl, wo_mono n3.1 _ _ (wo_mono n2.1 _ _ n1.2), .nil⟩ (pr_imp y2 fun _ _ h => h.keep s3)⟩, by rw [List.length_cons]; omega, fun y hy => (List.mem_cons.mp hy).elim (fun h => by rw [h]; exact ⟨Nat.zero_le _, fun d hd => nomatch hd⟩) (g6 y)⟩
      rintro σ H7 ⟨l, ys, rfl, d7, hy7, l7, g7⟩
      have dH := d2.trans d7
      have hk7 := (hk.keep dH.same).keep wo_same
      have ha7 := (hab.keep dH.same).keep wo_same
      have hy7' := hy7.keep wo_same
      have g100 : ∀ y ∈ ys, y.length ≤ 100 ∧ ∀ d ∈ y, Made ks ps d := fun y hy => ⟨by have := (g7 y hy).1; omega, (g7 y hy).2⟩
      have few := made_few gk M.fine (by omega) g100
      have due := made_due gk M.fine (by omega) g100
      obtain ⟨dx, fs, kp', yt, axs, h1, h2, h3, h4, h5, h6, h7, h8⟩ := ha7.ex
      have := gk.hi
      refine ⟨_, rfl, ab, dx, fs, rfl, h1, h5 _ (by decide +kernel) (by decide +kernel) (by decide +kernel), _, rfl, _, rfl, ?_⟩
      refine mk_hist hk7 gk.kb (hy7'.years few) due fun x H8 hx0 s8 hh => ?_
      refine ⟨ab, x, ks, ks, es, wh, ys, rfl, ha7.keep s8, hh, gk.ok, gk.ok, .inr ⟨rfl, by omega, by omega, fun e he => (ge e he).fit.ok gk M.fine, ⟨by omega, fun y hy => ⟨by have := (g7 y hy).1; omega, made_ok gk M.fine (g7 y hy).2⟩⟩, fun H9 s9 => ?_⟩⟩
      have s79 := s8.trans s9
      refine ⟨_, rfl, _, rfl, _, rfl, _, rfl, c, b, l, ks, es, wh, ys, rfl, ((M.cu.keep dH.same).keep wo_same).keep s79, by omega, ((he.keep dH.same).keep wo_same).keep s79, hy7'.keep s79, ⟨by omega, fun e he => ⟨by have := (ge e he).few; omega, made_ok gk M.fine (ge e he).fit.md⟩⟩, ⟨by omega, fun y hy => ⟨by have := (g7 y hy).1; omega, made_ok gk M.fine (g7 y hy).2⟩⟩, fun HA sA => ?_⟩
      refine ⟨_, _, rfl, ?_⟩
      rw [beq_self_eq_true]
      exact ⟨_, rfl, iteF ⟨_, _, _, _, rfl, dH.ofS (s79.trans sA)⟩⟩
    · rintro σ H2 ⟨v7, v8, v9, v10, rfl, d2⟩
      exact k H2 d2
end
end Kx

set_option maxHeartbeats 8000000
namespace Kx
open PySem PySem.Spec PyProof.Rows L2
/-! other kinds refused -/
theorem pe_bmK {X : Cx} {K : PySem.W.Frag} {o e : Expr} {es : List Expr} {T name id : String} {apos cpos : Pos} {r : V → List V → Hp → VK → Prop} {to : TE} {t : TA} (hK : X.K = K) (pa : PlainAttrs T) (slot : Slot T name id) (hty : typeOf (.builtin id) = pure (.type "method_descriptor")) (hm : MtR X id r) (ho : PE X o to) (ha : PA X (e :: es) t)
    (hbase : attributeBase o name X.env (eval o X.env) = eval o X.env := by rfl)
    (hfew : ((backTo cpos (starEach (e :: es) X.env)).all (fun x => !x.1) && (backToKw cpos (keywordEach [] X.env)).all (fun x => x.1.isSome)
      && decide ((e :: es).length + ([] : List Keyword).length + (if ([] : List Keyword).isEmpty then 0 else 1) < 30)) = true := by rfl)
    (hline : (apos.endLine == cpos.line) = true := by rfl) (hs : starEach (e :: es) X.env = (false, eval e X.env) :: starEach es X.env := by rfl) (hplain : (backTo cpos (starEach es X.env)).any (·.1) = false := by rfl) :
    PE X (.Call (.Attribute o name apos) (e :: es) [] cpos) (tBM K T r to t) := by
  subst hK
  exact pe_bm pa slot hty hm ho ha hbase hfew hline hs hplain
/-- a written empty tuple -/
structure Wnil (K : PySem.W.Frag) (e : Addr) : Prop where
  ex : ∃ o : Obj, K.lookup e = some o ∧ o.cls = .type "tuple" ∧ ∃ n, o.data = .seq #[] n
theorem Wnil.seq {K : PySem.W.Frag} {e : Addr} (w : Wnil K e) {H : Hp} : IsSeq K H e [] := by
  obtain ⟨o, h1, h2, n, h3⟩ := w.ex
  exact .wr h1 h2 fun H => .inr ⟨o, #[], n, h1, h2, h3, Nat.zero_le _, .nil⟩
def zzR : Str × Int := ("zzzzzz", 1)
theorem zz_good {ks : List (Str × Int)} (g : GoodK ks) (nz : ∀ r ∈ ks, ¬ r.1 = Str.ofString "zzzzzz") (l3 : ks.length ≤ 3) : GoodK (ks ++ [zzR]) := by
  have zl : isLab zzR.1 = true ∧ ¬ zzR.1 = Str.ofString "year" ∧ 0 ≤ zzR.2 ∧ zzR.2 ≤ 2 := by decide +kernel
  refine ⟨by rw [List.length_append]; show 1 ≤ _ + 1; omega, by rw [List.length_append]; show _ + 1 ≤ 6; omega, fun q hq => ?_, ?_⟩
  · rcases List.mem_append.mp hq with h | h
    · exact g.each q h
    · rw [List.mem_singleton.mp h]
      exact zl
  · rw [List.map_append, List.nodup_append]
    refine ⟨g.nd, by simp, fun a ha b hb e => ?_⟩
    obtain ⟨r, hr, rfl⟩ := List.mem_map.mp ha
    rw [List.mem_singleton.mp hb] at e
    exact nz r hr e
theorem zz_ne (ks : List (Str × Int)) : ks ≠ ks ++ [zzR] := fun e => by
  have := congrArg List.length e
  rw [List.length_append] at this
  have : ks.length = ks.length + 1 := this
  omega
theorem due0 (ks : List (Str × Int)) : yearsDue ks (some (yR [])) = none := due_none ⟨Nat.zero_le _, fun y hy => nomatch hy⟩ fun y hy => nomatch hy
/-- what is known of OtherKinds when it is caught -/
structure ErO (K : PySem.W.Frag) (mg : Str → Option Value) (CO : Addr) : Prop where
  m : mg "OtherKinds" = some (.ref CO)
  tB : PySem.W.exmOne K (.ref CO) (.ref CO) = some true
def spXRefuses (CA CK : Addr) (Cs : Ew → Addr) : Sp := fun vs H Q _ => ∃ (c ab : Addr) (ks : List (Str × Int)) (es : List En) (wh : Bool), vs = [.ref c, .ref ab] ∧ CusAt H c ks ∧ GoodK ks ∧ (∀ r ∈ ks, ¬ r.1 = Str.ofString "zzzzzz") ∧ ks.length ≤ 3 ∧ AbsAt CA CK Cs H ab ks es wh ∧ ∀ H', Same H H' → Q (.bl true) H'
theorem cus_items {H : Hp} : ∀ {xs : List V} {ks : List (Str × Int)}, Paired (PairT H) xs ks → ItemsAt H xs ks
  | _, _, .nil => ⟨rfl, fun i x q h => nomatch h⟩
  | _, _, .cons h t => by
    obtain ⟨e, f⟩ := cus_items t
    refine ⟨by rw [List.length_cons, List.length_cons, e], fun i x q h1 h2 => ?_⟩
    cases i with
    | zero =>
      cases h1
      cases h2
      obtain ⟨t, e, ht⟩ := h
      exact ⟨t, e, .inr ht⟩
    | succ i => exact f i x q h1 h2
section
variable {P : Program} {w : World} {K : PySem.W.Frag} {mg : Str → Option Value} {base : Heap}
theorem scXRefuses : FnScope ["_law_custom_here", "_law_made", "_law_other", "_law_told"] ["_law_custom_here", "_law_made"] (defScope sLRefusesKinds) := ⟨rfl, rfl, rfl, by decide +kernel, rfl, by decide +kernel, by decide +kernel⟩
theorem ok_xrefuses {f CA C CK CO CB CKB ed gF gW gH gI gK : Addr} {fd fdF fdW fdH fdI fdK : FuncData} {Cs : Ew → Addr} {ds da : List Value} (F : Fun K "_law_refuses_kinds" "_law_refuses_kinds" sLRefusesKinds f fd) (m : mg "_law_refuses_kinds" = some (.ref f)) (AX : AC K CA) (KX : KC K CK) (EO : ErO K mg CO)
    (MF : AbM P w K mg base CA "fills" 4 ["self", "history"] (spFills CA C CK CO Cs) gF fdF) (MW : AbM P w K mg base CA "is_within" 5 ["self", "other"] (spIsWithin CA CK CO Cs) gW fdW)
    (MK : MkM P w K mg base CK "Kinds" 3 ["self", "rows"] (spKinds K CK CKB) gK fdK) (MH : MkM P w K mg base C "History" 4 ["self", "kinds", "years"] (spHist K C CK CB) gH fdH) (bD : Binds K fdH ["self", "kinds", "years"] ds) (rd : Vals [V.ref ed] ds) (we : Wnil K ed)
    (IM : Mk K CA gI) (IG : FnOk P w K mg base (L2.CX P w) 4 gI fdI ["self", "kinds", "years", "whole"] (spAInit K CA CK Cs)) (Im : mg "Abstract" = some (.ref CA)) (Ib : Binds K fdI ["self", "kinds", "years", "whole"] da) (Ir : Vals [V.bl false] da) : HasF P w K mg base "_law_refuses_kinds" 6 ["_law_custom_here", "_law_made"] (spXRefuses CA CK Cs) := by
  refine ⟨f, fd, ?_, m, F.kp, F.binds fun _ _ _ _ _ _ us hl => match us, hl with | [_, _], _ => rfl⟩
  refine F.ok scXRefuses (fun vs H Q E h => ?_) (fun cdv A outer s H vs Q E hr h => ?_)
  · obtain ⟨a, b, c, d, e, rfl, _⟩ := h
    rfl
  · obtain ⟨c, ab, ks, es, wh, rfl, cu, gk, nz, l3, ha, k⟩ := h
    have hr4 : Room 4 _ := hr.mono (by decide)
    obtain ⟨b, rest, xs, c1, c2, c3⟩ := cu.ex
    have gz := zz_good gk nz l3
    refine ⟨_, (pss_cons (ps_set (i := 2) scXRefuses.nd rfl (Or.inl rfl) (pe_make MK.M MK.G hr4 (by rfl) MK.m MK.b .nil passL (pa_cons (pe_op op_cat (pe_ix ix_list (pv 0) pe_int (fun _ _ => rfl)) (pe_lst (pa_cons (pe_tup (pa_cons pe_str (pa_cons pe_int pa_nil))) pa_nil))) pa_nil)))
    (pss_cons (ps_set (i := 3) scXRefuses.nd rfl (Or.inl rfl) (pe_lst pa_nil))
    (C8.pss_cut (ps_try_only (Wout := fun _ _ _ _ => False) rfl rfl ⟨rfl, by decide, .inl EO.m⟩ takes0 (fun W pn xe tk _ => pss_one (ps_expr (pe_methW (pv 1) AX.cl MF.M MF.G hr4 MF.b (fun σ => passAt tk σ) (pa_cons (pe_make MH.M MH.G hr (by rfl) MH.m bD rd passL (pa_cons (pv 2) pa_nil)) pa_nil)))) (fun a oe cls d pn _ _ => pss_one (ps_expr (pe_bmK (K := K) rfl PySem.F.plainAttrs_list PySem.F.slot_list_append PySem.F.type_list_append mt_append (pv 3) (pa_cons pe_str pa_nil)))))
    (C8.pss_cut (ps_try_only (Wout := fun _ _ _ _ => False) rfl rfl ⟨rfl, by decide, .inl EO.m⟩ takes0 (fun W pn xe tk _ => pss_one (ps_expr (pe_methW (pv 1) AX.cl MW.M MW.G hr MW.b (fun σ => passAt tk σ) (pa_cons (pe_make IM IG hr (by rfl) Im Ib Ir passL (pa_cons (pv 2) (pa_cons (pe_lst pa_nil) pa_nil))) pa_nil)))) (fun a oe cls d pn _ _ => pss_one (ps_expr (pe_bmK (K := K) rfl PySem.F.plainAttrs_list PySem.F.slot_list_append PySem.F.type_list_append mt_append (pv 3) (pa_cons pe_str pa_nil)))))
    (pss_one (ps_ret (pe_cmpR (op_eqD hr.units) (pv 3) (pe_lst (pa_cons pe_str (pa_cons pe_str pa_nil))) (nomark _)))))))), ?_⟩
    refine ⟨_, rfl, c, _, 0, _, rfl, rfl, SqL.of c1, atI0 _ _, (by show 2 ≤ sizeLine; decide), fun t ht => ⟨(by show 1 ≤ sizeLine; decide), fun a1 q1 => ?_⟩⟩
    have r1 := sameUpd (o := .tup [.str "zzzzzz", .int 1]) (Same.refl H) ht
    have r2 := sameUpd (o := .lst [.ref t]) (Same.refl _) q1
    have r12 := r1.trans r2
    have gt := r2 _ _ (upd_same (H := H) (a := t) (o := .tup [.str "zzzzzz", .int 1]))
    have lx := pr_len c3
    refine ⟨b, a1, _, _, rfl, rfl, r12 _ _ c2, upd_same, Nat.le_of_lt (small1000 (by show xs.length + 1 ≤ 1000; omega)), fun a2 q2 => ?_⟩
    have r3 := sameUpd (o := .lst (xs ++ [.ref t])) (Same.refl _) q2
    have r13 := r12.trans r3
    have gl : GoodL _ a2 (ks ++ [zzR]) := ⟨xs ++ [.ref t], upd_same, (cus_items (pr_imp c3 fun _ _ z => z.keep r13)).add ⟨t, rfl, .inr (r3 _ _ gt)⟩⟩
    refine mk_kinds gz gl fun kp H1 _ s1 hk => ?_
    have sH1 := r13.trans s1
    have ha1 := ha.keep sH1
    have ok := gk.ok
    have okz := gz.ok
    refine ⟨Nat.zero_le _, fun l hl => ?_⟩
    have s2 := sameUpd (o := .lst []) (Same.refl H1) hl
    have hl2 : (upd H1 l (.lst [])) l = some (.lst []) := upd_same
    generalize upd H1 l (.lst []) = H2 at s2 hl2 ⊢
    refine ⟨fun σ H3 => σ = [some (.ref c), some (.ref ab), some (.ref kp), some (.ref l)] ∧ Same H1 H3 ∧ H3 l = some (.lst [.str "fills"]), ?_, ?_⟩
    · have ha2 := ha1.keep s2
      obtain ⟨dx, fs, kp', yt, axs, h1, h2, h3, h4, h5, h6, h7, h8⟩ := ha2.ex
      refine ⟨_, rfl, ab, dx, fs, rfl, h1, h5 _ (by decide +kernel) (by decide +kernel) (by decide +kernel), _, rfl, ?_⟩
      refine mk_hist (l := ed) (ys := []) (hk.keep s2) gz.kb (.seq we.seq .nil (Nat.zero_le _)) (due0 _) fun x H3 _ s3 hh => ?_
      refine ⟨ab, x, ks, ks ++ [zzR], es, wh, [], rfl, ha2.keep s3, hh, ok, okz, .inl ⟨zz_ne ks, ⟨true, EO.tB, fun _ a _ => ?_, fun q => nomatch q⟩⟩⟩
      refine ⟨_, rfl, .inl ⟨rfl, _, SqL.of (s3 _ _ hl2)⟩, l, _, _, rfl, rfl, s3 _ _ hl2, small1000 (Nat.zero_le _), rfl, woD hl s2 s3, upd_same⟩
    rintro σ H3 ⟨rfl, s3, hl3⟩
    refine ⟨fun σ H4 => σ = [some (.ref c), some (.ref ab), some (.ref kp), some (.ref l)] ∧ Same H1 H4 ∧ H4 l = some (.lst [.str "fills", .str "within"]), ?_, ?_⟩
    · have ha3 := ha1.keep s3
      obtain ⟨dx, fs, kp', yt, axs, h1, h2, h3, h4, h5, h6, h7, h8⟩ := ha3.ex
      refine ⟨_, rfl, ab, dx, fs, rfl, h1, h5 _ (by decide +kernel) (by decide +kernel) (by decide +kernel), _, rfl, Nat.zero_le _, fun n hn => fun x dx' hx hdx ne => ?_⟩
      have s4 := sameUpd (o := .lst []) (Same.refl H3) hn
      refine abs_new (ps := []) (hk.keep (s3.trans s4)) upd_same .nil (Nat.zero_le _) (fun e he => nomatch he) gz (fun y hy => nomatch hy) (Nat.zero_le _) hx hdx fun H5 s5 hz => ?_
      have s35 := s4.trans s5
      refine ⟨rfl, ab, x, ks, ks ++ [zzR], es, [], wh, false, rfl, ha3.keep s35, hz, ok, okz, .inl ⟨zz_ne ks, ⟨true, EO.tB, fun _ a _ => ?_, fun q => nomatch q⟩⟩⟩
      refine ⟨_, rfl, .inl ⟨rfl, _, SqL.of (s35 _ _ hl3)⟩, l, _, _, rfl, rfl, s35 _ _ hl3, small1000 (by show 1 ≤ 1000; decide), rfl, woD hl s3 s35, upd_same⟩
    rintro σ H4 ⟨rfl, s4, hl4⟩
    refine ⟨_, rfl, (by show 2 ≤ sizeLine; decide), fun n hn => ?_⟩
    have s5 := sameUpd (o := .lst [.str "fills", .str "within"]) (Same.refl H4) hn
    have ok2 : Ok ["fills", "within"] := by unfold Ok; decide +kernel
    refine ⟨.list (dS ["fills", "within"]), .list (dS ["fills", "within"]), .lst (SqL.of (s5 _ _ hl4)) (dp_strs ["fills", "within"]), .lst (SqL.of upd_same) (dp_strs ["fills", "within"]), shaped_list ok2, shaped_list ok2, ?_⟩
    have ev : PyData.eqv (.list (dS ["fills", "within"])) (.list (dS ["fills", "within"])) = true := by decide +kernel
    rw [ev]
    exact k _ (sH1.trans (s4.trans s5))
end
end Kx

set_option maxHeartbeats 16000000
namespace Kx
open PySem PySem.Spec PyProof.Rows L2
/-! the law -/
abbrev NLaw : List Str := ["_law_script", "_law_hand_here", "_law_custom_here", "_law_kinds", "_law_persons_here", "_law_entries_here", "_law_whole", "_law_made", "_law_looser_here", "_law_cut", "_law_loose_whole", "_law_other", "_law_k", "_law_one_here", "_law_two", "_law_entry_here"]
theorem scLaw : FnScope NLaw ["_law_script"] (defScope sLaw) := ⟨rfl, rfl, rfl, by decide +kernel, rfl, by decide +kernel, by decide +kernel⟩
structure All38 (P : Program) (w : World) (K : PySem.W.Frag) (mg : Str → Option Value) (base : Heap) (C CA CK CB CKB CO gK gI gW : Addr) (dK dI dW : FuncData) (Cs : Ew → Addr) (g : List Value → List Value → List Value) : Prop where
  hand : HasF P w K mg base "_law_hand" 1 ["_law_script"] (spHand K)
  draw : HasF P w K mg base "_law_draw" 2 ["_law_hand_here", "_law_many"] spDraw
  one : HasF P w K mg base "_law_one" 3 ["_law_hand_here", "_law_rows"] spOne
  truth : HasF P w K mg base "_law_truth" 1 ["_law_told", "_law_due"] spXTruth
  pers : HasF P w K mg base "_law_persons" 1 [] spXPers
  some : HasF P w K mg base "_law_some" 3 ["_law_hand_here", "_law_rows", "_law_many"] spXSome
  entries : HasF P w K mg base "_law_entries" 6 ["_law_hand_here", "_law_custom_here", "_law_persons_here", "_law_many", "_law_most"] spXEntries
  custom : HasF P w K mg base "_law_custom" 4 ["_law_hand_here"] spXCustom
  made : HasF P w K mg base "_law_entry_made" 5 ["_law_entry_here"] (spXMade Cs)
  looser : HasF P w K mg base "_law_looser" 6 ["_law_hand_here", "_law_custom_here", "_law_entry_here", "_law_persons_here"] spXLooser
  within : HasF P w K mg base "_law_within" 3 ["_law_custom_here", "_law_one_here", "_law_other"] spXWithin
  awithin : HasF P w K mg base "_law_abstract_within" 4 ["_law_custom_here", "_law_one_here", "_law_whole", "_law_other", "_law_other_whole"] spXAWithin
  yright : HasF P w K mg base "_law_years_right" 6 ["_law_hand_here", "_law_custom_here", "_law_kinds", "_law_entries_here", "_law_persons_here"] (spXYRight CK)
  fright : HasF P w K mg base "_law_fills_right" 7 ["_law_hand_here", "_law_custom_here", "_law_kinds", "_law_entries_here", "_law_whole", "_law_made", "_law_persons_here"] (spXFRight CA CK Cs)
  refuses : HasF P w K mg base "_law_refuses_kinds" 6 ["_law_custom_here", "_law_made"] (spXRefuses CA CK Cs)
  ewithin : HasF P w K mg base "entry_within" 4 ["kinds", "one", "other"] (spEWithin Cs CK)
  MK : MkM P w K mg base CK "Kinds" 3 ["self", "rows"] (spKinds K CK CKB) gK dK
  AX : AC K CA
  MW : AbM P w K mg base CA "is_within" 5 ["self", "other"] (spIsWithin CA CK CO Cs) gW dW
  IM : Mk K CA gI
  IG : FnOk P w K mg base (L2.CX P w) 4 gI dI ["self", "kinds", "years", "whole"] (spAInit K CA CK Cs)
  Im : mg "Abstract" = Option.some (.ref CA)
  Ib : KBn K dI ["self", "kinds", "years", "whole"] 3 ["whole"] g (fun vs zs => vs ++ zs)
  mi : mg "min" = Option.none
def six : List Str := ["ann", "bob", "cy", "a", "b", "zz"]
theorem six_ok : ∀ z ∈ six, Lb z := by unfold Lb; decide +kernel
theorem six_nd : six.Nodup := by decide +kernel
theorem EnAt.offL {Cs : Ew → Addr} {H : Hp} {t D : Addr} {e : En} {acc : List V} (h : EnAt Cs H t e) (ha : H D = some (.lst acc)) : EnAt Cs (Kx.wo D H) t e := by
  obtain ⟨dx, fs, u, n, h1, h2, h3, h4, h5, h6⟩ := h.ex
  refine ⟨dx, fs, u, n, wo_at h1 (fun z => by rw [z, ha] at h1; cases h1), h2, h3, h4, ?_, wo_at h6 fun z => by rw [z, ha] at h6; cases h6⟩
  obtain ⟨d, xs, e, h, px⟩ := h5
  refine ⟨d, xs, e, wo_at h (fun z => by rw [z, ha] at h; cases h), pr_imp px fun x y q => ?_⟩
  obtain ⟨b, e, hb⟩ := q
  exact ⟨b, e, wo_at hb fun z => by rw [z, ha] at hb; cases hb⟩
abbrev Sg (a p c kp c4 : Addr) (v5 v6 v7 v8 v9 v10 v11 v12 v13 v14 : Option V) : L2.St := [some (.ref a), some (.ref p), some (.ref c), some (.ref kp), some (.ref c4), v5, v6, v7, v8, v9, v10, v11, v12, v13, v14, none]
/-- what stands all the time -/
structure LW (CK : Addr) (H : Hp) (p q c a kp b : Addr) (ks : List (Str × Int)) (ps : List Str) (es : List En) : Prop where
  M : Mt H p q c a ks ps
  kd : KindsAt CK (wo p H) kp (vv ks)
  es : EsA (wo p H) b es
theorem LW.dr {CK : Addr} {H H' : Hp} {p q c a kp b : Addr} {ks : List (Str × Int)} {ps : List Str} {es : List En} (l : LW CK H p q c a kp b ks ps es) (d : Dr H H' p q) : LW CK H' p q c a kp b ks ps es := ⟨l.M.keep d, l.kd.keep d.same, l.es.keep d.same⟩
theorem LW.same {CK : Addr} {H H' : Hp} {p q c a kp b : Addr} {ks : List (Str × Int)} {ps : List Str} {es : List En} (l : LW CK H p q c a kp b ks ps es) (s : Same H H') : LW CK H' p q c a kp b ks ps es := l.dr ((Dr.refl l.M.hp).ofS s)
theorem Dr.of {H H' : Hp} {p q : Addr} (hp : HandAt H p q) (s : Same H H') : Dr H H' p q := (Dr.refl hp).ofS s
theorem cut_dropA (xs : List V) (m : Nat) : cutV xs (some (m : Int)) none = xs.drop m := by
  rcases Nat.le_total m xs.length with h | h
  · exact cut_drop xs m h
  · unfold cutV
    rw [HT.sIx_nat, Nat.min_eq_right h, List.drop_length, List.take_nil, List.drop_eq_nil_of_le h]
theorem es_ok {ks : List (Str × Int)} {ps : List Str} {es : List En} (gk : GoodK ks) (l : ∀ y ∈ ps, Lb y) (n : es.length ≤ 100) (g : ∀ e ∈ es, GoodEn ks ps e) : OkE es := ⟨n, fun e he => ⟨by have := (g e he).few; omega, made_ok gk l (g e he).fit.md⟩⟩
theorem law_body {P : Program} {w : World} {K : PySem.W.Frag} {mg : Str → Option Value} {base : Heap} {fa C CA CK CB CKB CO gK gI gW : Addr} {dK dI dW : FuncData} {Cs : Ew → Addr} {g : List Value → List Value → List Value} (T : Bl mg) (A : All38 P w K mg base C CA CK CB CKB CO gK gI gW dK dI dW Cs g) : LawBody P w K mg base NLaw "law" sLaw fa 7 := by
  intro cdv s H a ns hr hS hn'
  obtain ⟨f1, d1, Hd⟩ := A.hand; obtain ⟨f2, d2, D⟩ := A.draw; obtain ⟨f3, d3, O⟩ := A.one; obtain ⟨f4, d4, Tr⟩ := A.truth; obtain ⟨f5, d5, Pe⟩ := A.pers; obtain ⟨f6, d6, So⟩ := A.some; obtain ⟨f7, d7, Es⟩ := A.entries; obtain ⟨f8, d8, Cu⟩ := A.custom
  obtain ⟨f9, d9, Ma⟩ := A.made; obtain ⟨f10, d10, Lo⟩ := A.looser; obtain ⟨f11, d11, Wi⟩ := A.within; obtain ⟨f12, d12, Aw⟩ := A.awithin; obtain ⟨f13, d13, Yr'⟩ := A.yright; obtain ⟨f14, d14, Fr'⟩ := A.fright; obtain ⟨f15, d15, Re⟩ := A.refuses; obtain ⟨f16, d16, Ew'⟩ := A.ewithin
  have hr1 : Room 1 _ := hr.mono (by decide)
  have hr2 : Room 2 _ := hr.mono (by decide)
  have hr3 : Room 3 _ := hr.mono (by decide)
  have hr4 : Room 4 _ := hr.mono (by decide)
  have hr5 : Room 5 _ := hr.mono (by decide)
  have hr6 : Room 6 _ := hr.mono (by decide)
  refine ⟨_, (pss_cons (ps_set (i := 1) scLaw.nd rfl (Or.inr rfl) (pe_call Hd.G hr1 (by rfl) Hd.m Hd.kp Hd.b .nil pass0 (pa_cons (pv 0) pa_nil)))
    (pss_cons (ps_set (i := 2) scLaw.nd rfl (Or.inr rfl) (pe_call Cu.G hr4 (by rfl) Cu.m Cu.kp Cu.b .nil pass0 (pa_cons (pv 1) pa_nil)))
    (pss_cons (ps_set (i := 3) scLaw.nd rfl (Or.inl rfl) (pe_make A.MK.M A.MK.G hr4 (by rfl) A.MK.m A.MK.b .nil passL (pa_cons (pe_ix ix_list (pv 2) pe_int (fun _ _ => rfl)) pa_nil)))
    (C8.pss_cut (ps_set (i := 4) scLaw.nd rfl (Or.inr rfl) (pe_call So.G hr3 (by rfl) So.m So.kp So.b .nil pass0 (pa_cons (pv 1) (pa_cons (pe_call0 Pe.G hr1 (by rfl) Pe.m Pe.kp Pe.b .nil pass0) (pa_cons (pe_op op_add pe_int (pe_call D.G hr2 (by rfl) D.m D.kp D.b .nil pass0 (pa_cons (pv 1) (pa_cons pe_int pa_nil)))) pa_nil)))))
    (pss_cons (ps_set (i := 5) scLaw.nd rfl (Or.inl rfl) (pe_call Es.G hr6 (by rfl) Es.m Es.kp Es.b .nil pass0 (pa_cons (pv 1) (pa_cons (pv 2) (pa_cons (pv 4) (pa_cons pe_int (pa_cons pe_int pa_nil)))))))
    (C8.pss_cut (ps_set (i := 6) scLaw.nd rfl (Or.inl rfl) (pe_cmpR op_eq (pe_call D.G hr2 (by rfl) D.m D.kp D.b .nil pass0 (pa_cons (pv 1) (pa_cons pe_int pa_nil))) pe_int (nomark _)))
    (C8.pss_cut (ps_set (i := 7) scLaw.nd rfl (Or.inl rfl) (pe_makeK A.IM A.IG hr5 (by rfl) A.Im A.Ib passL (pa_cons (pv 3) (pa_cons (pe_lc (own := [("_law_entry_here", 15)]) (g := gName 15) (tt := tYes) (by rfl) scLaw.nd (pi_seq (pv 5)) (blkOk_by (own := [("_law_entry_here", 15)]) (N := NLaw) (sc := defScope sLaw) (by decide +kernel))
        (fun _ _ _ _ _ => pg_name (i := 15) scLaw.nd rfl (.inl rfl)) (fun _ _ _ _ _ => pts_nil) (fun _ _ _ _ _ => (pe_call Ma.G hr5 (by rfl) Ma.m Ma.kp Ma.b .nil pass0 (pa_cons (pv 15) pa_nil)))) pa_nil)) (pk_cons (pv 6) pk_nil)))
    (C8.pss_cut (ps_if (pt_not (pt_val (pe_call Yr'.G hr6 (by rfl) Yr'.m Yr'.kp Yr'.b .nil pass0 (pa_cons (pv 1) (pa_cons (pv 2) (pa_cons (pv 3) (pa_cons (pv 5) (pa_cons (pv 4) pa_nil)))))))) (pss_one ps_never) pss_nil)
    (C8.pss_cut (ps_if (pt_not (pt_val (pe_call Fr'.G hr (by rfl) Fr'.m Fr'.kp Fr'.b .nil pass0 (pa_cons (pv 1) (pa_cons (pv 2) (pa_cons (pv 3) (pa_cons (pv 5) (pa_cons (pv 6) (pa_cons (pv 7) (pa_cons (pv 4) pa_nil)))))))))) (pss_one ps_never) pss_nil)
    (C8.pss_cut (ps_setLc (i := 8) (own := [("_law_entry_here", 15)]) (g := gName 15) (tt := tYes) (by rfl) scLaw.nd rfl rfl (sw_true rfl rfl rfl (by decide +kernel)) (pi_seq (pv 5)) (blkOk_by (own := [("_law_entry_here", 15)]) (N := NLaw) (sc := defScope sLaw) (by decide +kernel))
        (fun _ _ _ _ _ => pg_name (i := 15) scLaw.nd rfl (.inl rfl)) (fun _ _ _ _ _ => pts_nil) (fun _ _ _ _ _ => (pe_call Lo.G hr6 (by rfl) Lo.m Lo.kp Lo.b .nil pass0 (pa_cons (pv 1) (pa_cons (pv 2) (pa_cons (pv 15) (pa_cons (pv 4) pa_nil)))))))
    (C8.pss_cut (ps_set (i := 9) scLaw.nd rfl (Or.inl rfl) (pe_call O.G hr3 (by rfl) O.m O.kp O.b .nil pass0 (pa_cons (pv 1) (pa_cons (pe_lst (pa_cons pe_int (pa_cons pe_int (pa_cons pe_int (pa_cons pe_int (pa_cons (pe_un un_neg pe_int) pa_nil)))))) pa_nil))))
    (C8.pss_cut (ps_set (i := 8) scLaw.nd rfl (Or.inl rfl) (pe_ifExp (pt_cmpR op_lt (pv 9) pe_int (nomark _)) (pe_op op_cat (pe_lst (pa_cons (pe_lst (pa_cons pe_str (pa_cons (pe_lst pa_nil) (pa_cons (pe_lst pa_nil) pa_nil)))) pa_nil)) (pv 8)) (pe_slice sl_list (pv 8) (po_some (pv 9)) po_none)))
    (C8.pss_cut (ps_set (i := 10) scLaw.nd rfl (Or.inl rfl) (pe_cmpR op_eq (pe_call D.G hr2 (by rfl) D.m D.kp D.b .nil pass0 (pa_cons (pv 1) (pa_cons pe_int pa_nil))) pe_int (nomark _)))
    (C8.pss_cut (ps_set (i := 11) scLaw.nd rfl (Or.inl rfl) (pe_makeK A.IM A.IG hr5 (by rfl) A.Im A.Ib passL (pa_cons (pv 3) (pa_cons (pe_lc (own := [("_law_entry_here", 15)]) (g := gName 15) (tt := tYes) (by rfl) scLaw.nd (pi_seq (pv 8)) (blkOk_by (own := [("_law_entry_here", 15)]) (N := NLaw) (sc := defScope sLaw) (by decide +kernel))
        (fun _ _ _ _ _ => pg_name (i := 15) scLaw.nd rfl (.inl rfl)) (fun _ _ _ _ _ => pts_nil) (fun _ _ _ _ _ => (pe_call Ma.G hr5 (by rfl) Ma.m Ma.kp Ma.b .nil pass0 (pa_cons (pv 15) pa_nil)))) pa_nil)) (pk_cons (pv 10) pk_nil)))
    (C8.pss_cut (ps_if (pt_not (pt_val (pe_call Tr.G hr1 (by rfl) Tr.m Tr.kp Tr.b .nil pass0 (pa_cons (pe_meth (pv 7) A.AX.cl A.MW.M A.MW.G hr5 A.MW.b .nil passL (pa_cons (pv 11) pa_nil)) (pa_cons (pe_call Aw.G hr4 (by rfl) Aw.m Aw.kp Aw.b .nil pass0 (pa_cons (pv 2) (pa_cons (pv 5) (pa_cons (pv 6) (pa_cons (pv 8) (pa_cons (pv 10) pa_nil)))))) pa_nil))))) (pss_one ps_never) pss_nil)
    (C8.pss_cut (ps_if (pt_not (pt_val (pe_call Tr.G hr1 (by rfl) Tr.m Tr.kp Tr.b .nil pass0 (pa_cons (pe_meth (pv 11) A.AX.cl A.MW.M A.MW.G hr5 A.MW.b .nil passL (pa_cons (pv 7) pa_nil)) (pa_cons (pe_call Aw.G hr4 (by rfl) Aw.m Aw.kp Aw.b .nil pass0 (pa_cons (pv 2) (pa_cons (pv 8) (pa_cons (pv 10) (pa_cons (pv 5) (pa_cons (pv 6) pa_nil)))))) pa_nil))))) (pss_one ps_never) pss_nil)
    (C8.pss_cut (ps_for PassesOwn.never rfl (pi_range1 (by rfl) T.range (pa_cons (pe_callB (call_min2 rfl) (by rfl) A.mi (by decide +kernel) (pa_cons (pe_callB call_len_seq (by rfl) T.len PySem.boot_len (pa_cons (pv 5) pa_nil)) (pa_cons (pe_callB call_len_seq (by rfl) T.len PySem.boot_len (pa_cons (pv 8) pa_nil)) pa_nil))) pa_nil)) (pg_name (i := 12) scLaw.nd rfl (.inl rfl))
      (C8.pss_cut (ps_par (i := 13) (j := 14) rfl scLaw.nd rfl rfl (by decide) rfl rfl (pa_cons (pe_call Ma.G hr5 (by rfl) Ma.m Ma.kp Ma.b .nil pass0 (pa_cons (pe_ix ix_list (pv 5) (pv 12) (fun _ _ => rfl)) pa_nil)) (pa_cons (pe_call Ma.G hr5 (by rfl) Ma.m Ma.kp Ma.b .nil pass0 (pa_cons (pe_ix ix_list (pv 8) (pv 12) (fun _ _ => rfl)) pa_nil)) pa_nil)) rfl)
    (C8.pss_cut (ps_if (pt_not (pt_val (pe_call Tr.G hr1 (by rfl) Tr.m Tr.kp Tr.b .nil pass0 (pa_cons (pe_call Ew'.G hr4 (by rfl) Ew'.m Ew'.kp Ew'.b .nil pass0 (pa_cons (pv 3) (pa_cons (pv 13) (pa_cons (pv 14) pa_nil)))) (pa_cons (pe_call Wi.G hr3 (by rfl) Wi.m Wi.kp Wi.b .nil pass0 (pa_cons (pv 2) (pa_cons (pe_ix ix_list (pv 5) (pv 12) (fun _ _ => rfl)) (pa_cons (pe_ix ix_list (pv 8) (pv 12) (fun _ _ => rfl)) pa_nil)))) pa_nil))))) (pss_one ps_never) pss_nil)
    (pss_one (ps_if (pt_not (pt_val (pe_call Tr.G hr1 (by rfl) Tr.m Tr.kp Tr.b .nil pass0 (pa_cons (pe_call Ew'.G hr4 (by rfl) Ew'.m Ew'.kp Ew'.b .nil pass0 (pa_cons (pv 3) (pa_cons (pv 14) (pa_cons (pv 13) pa_nil)))) (pa_cons (pe_call Wi.G hr3 (by rfl) Wi.m Wi.kp Wi.b .nil pass0 (pa_cons (pv 2) (pa_cons (pe_ix ix_list (pv 8) (pv 12) (fun _ _ => rfl)) (pa_cons (pe_ix ix_list (pv 5) (pv 12) (fun _ _ => rfl)) pa_nil)))) pa_nil))))) (pss_one ps_never) pss_nil)))))
    (pss_one (ps_ret (pe_call Re.G hr6 (by rfl) Re.m Re.kp Re.b .nil pass0 (pa_cons (pv 2) (pa_cons (pv 7) pa_nil)))))))))))))))))))))), ?_⟩
  refine ⟨_, rfl, a, ns, rfl, hS, hn', fun p q H1 hp0 hq0 nqp hp1 s1 => ?_⟩
  refine ⟨_, rfl, p, q, rfl, hp1, fun c ks H2 d2 cu2 gk nz l3 => ?_⟩
  obtain ⟨cb, rest, cxs, c1, c2, c3⟩ := (cu2.keep wo_same).ex
  refine ⟨_, rfl, c, _, 0, _, rfl, rfl, SqL.of c1, atI0 _ _, ?_⟩
  refine mk_kinds gk ⟨cxs, c2, cus_items c3⟩ fun kp H3 _ s3 hk3 => ?_
  have hp3 := d2.hp.same s3
  have hk3 := hk3.wo hp3
  have cu3 := cu2.keep (wo_mono s3)
  clear hp1 s1 d2 cu2 c1 c2 c3 s3
  refine ⟨fun σ H4 => ∃ (c4 : Addr) (ps : List Str), σ = Sg a p c kp c4 none none none none none none none none none none ∧ Mt H4 p q c c4 ks ps ∧ KindsAt CK (wo p H4) kp (vv ks), ?_, ?_⟩
  · refine ⟨_, rfl, rfl, fun l hl => ⟨_, rfl, p, q, 3, rfl, hp3.same (sameUpd (Same.refl _) hl), by decide, by decide, fun z H4 z0 z1 hp4 k4 => ⟨_, _, rfl, rfl, ?_⟩⟩⟩
    have e3 := (Dr.refl hp3).new (o := .lst (six.map V.str)) hl
    have n3 := ((Dr.refl hp3).newS (o := .lst (six.map V.str)) hl).2
    have e4 : Dr _ H4 p q := ⟨hp4, k4⟩
    refine ⟨p, q, l, six, 1 + z, rfl, hp4, e4.same _ _ n3, six_nd, by decide, by omega, by show 1 + z ≤ 6; omega, fun b fs H5 b0 d5 hb nd sub fl => ?_⟩
    have d35 := e3.trans (e4.trans d5)
    exact ⟨b, fs, rfl, ⟨d5.hp, cu3.keep d35.same, gk, hb, (fun z => by rw [z] at fl; have : ((0 : Nat) : Int) = 1 + _ := fl; omega), by omega, fun y hy => six_ok y (sub y hy)⟩, hk3.keep d35.same⟩
  rintro σ H4 ⟨c4, ps, rfl, M4, hk4⟩
  clear hp3 hk3 cu3
  refine ⟨_, rfl, _, rfl, _, rfl, p, q, c, c4, ks, ps, rfl, M4, fun b es H5 d5 hes le ge => ?_⟩
  have L5 : LW CK H5 p q c c4 kp b ks ps es := ⟨M4.keep d5, hk4.keep d5.same, hes⟩
  clear M4 hk4 d5 hes
  refine ⟨fun σ H6 => ∃ wh : Bool, σ = Sg a p c kp c4 (some (.ref b)) (some (.bl wh)) none none none none none none none none ∧ LW CK H6 p q c c4 kp b ks ps es, ?_, ?_⟩
  · refine ⟨_, rfl, p, q, 3, rfl, L5.M.hp, by decide, by decide, fun z H6 _ _ hp6 k6 => ⟨rfl, _, rfl, L5.dr ⟨hp6, k6⟩⟩⟩
  rintro σ H6 ⟨wh, rfl, L6⟩
  clear L5
  have fit : ∀ {es : List En}, (∀ e ∈ es, GoodEn ks ps e) → ∀ e ∈ es, EnFit ks ps e ∧ e.names.length ≤ 1000 := fun g e he => ⟨(g e he).fit, (g e he).few1000 gk⟩
  refine ⟨fun σ H7 => ∃ ab : Addr, σ = Sg a p c kp c4 (some (.ref b)) (some (.bl wh)) (some (.ref ab)) none none none none none none none ∧ LW CK H7 p q c c4 kp b ks ps es ∧ AbsAt CA CK Cs (wo p H7) ab ks es wh, ?_, ?_⟩
  · obtain ⟨exs, e1, e2⟩ := L6.es
    have lx := pr_len e2
    refine ⟨_, rfl, _, rfl, b, rfl, lc_pure (g := gName 15) (fun j v H' => ∀ e, es[j]? = some e → EnV Cs H' v e) (fun j v H' H'' q s e he => (q e he).keep s) (IsSeq.lst (wo_get e1).1) (Same.refl _) (by omega) ?_ ?_ fun x σ H Q Q' q z => q _ _ z⟩
    · rintro D i x H8 k' hi hD s8 ⟨acc, hacc⟩ kk
      obtain ⟨e, he, hE⟩ := pr_get e2 hi
      obtain ⟨r, rfl⟩ := hE.ref
      refine ⟨rfl, ?_⟩
      refine ⟨_, rfl, r, ks, ps, e, rfl, (hE.keep wo_same).keep s8, ge e (List.mem_of_getElem? he), gk, fun t H9 s9 ht => kk _ _ s9 fun e' he' => ?_⟩
      rw [he] at he'
      cases he'
      exact ⟨t, rfl, ht.offL (s9 _ _ hacc)⟩
    · intro D zs H8 hD s8 hd8 lz g8
      refine ⟨_, rfl, rfl, rfl, fun x dx hx hdx ne => ?_⟩
      have px : Paired (EnV Cs H8) zs es := pr_of (by omega) fun j v d q1 q2 => (g8 j v q1 d q2).keep wo_same
      refine abs_new (ps := ps) ((L6.same s8).kd.keep wo_same) hd8 px (by omega) (fit ge) gk L6.M.fine (by have := L6.M.few; omega) hx hdx fun H9 s9 hz => ?_
      have L9 := L6.same (s8.trans s9)
      exact ⟨rfl, x, rfl, L9, hz.wo L9.M.hp⟩
  rintro σ H7 ⟨ab, rfl, L7, ha7⟩
  clear L6
  refine ⟨fun σ H8 => σ = Sg a p c kp c4 (some (.ref b)) (some (.bl wh)) (some (.ref ab)) none none none none none none none ∧ LW CK H8 p q c c4 kp b ks ps es ∧ AbsAt CA CK Cs (wo p H8) ab ks es wh, ?_, ?_⟩
  · refine ⟨_, rfl, _, rfl, _, rfl, _, rfl, _, rfl, p, q, c, kp, b, c4, ks, ps, es, rfl, L7.M, L7.kd, L7.es, by omega, ge, fun H8 d8 => ⟨_, rfl, iteF ⟨rfl, L7.dr d8, ha7.keep d8.same⟩⟩⟩
  rintro σ H8 ⟨rfl, L8, ha8⟩
  clear L7 ha7
  refine ⟨fun σ H9 => σ = Sg a p c kp c4 (some (.ref b)) (some (.bl wh)) (some (.ref ab)) none none none none none none none ∧ LW CK H9 p q c c4 kp b ks ps es ∧ AbsAt CA CK Cs (wo p H9) ab ks es wh, ?_, ?_⟩
  · refine ⟨_, rfl, _, rfl, _, rfl, _, rfl, _, rfl, _, rfl, _, rfl, p, q, c, kp, b, ab, c4, ks, ps, es, wh, rfl, L8.M, L8.kd, L8.es, le, ge, ha8, fun H9 d9 => ⟨_, rfl, iteF ⟨rfl, L8.dr d9, ha8.keep d9.same⟩⟩⟩
  rintro σ H9 ⟨rfl, L9, ha9⟩
  clear L8 ha8
  refine ⟨fun σ H10 => ∃ (l : Addr) (fs : List En), σ = Sg a p c kp c4 (some (.ref b)) (some (.bl wh)) (some (.ref ab)) (some (.ref l)) none none none none none none ∧ LW CK H10 p q c c4 kp b ks ps es ∧ AbsAt CA CK Cs (wo p H10) ab ks es wh ∧ EsA (wo p H10) l fs ∧ fs.length ≤ 4 ∧ ∀ e ∈ fs, GoodEn ks ps e, ?_, ?_⟩
  · obtain ⟨exs, e1, e2⟩ := L9.es
    have lx := pr_len e2
    refine ⟨_, rfl, b, rfl, lc_sq (H0 := wo p H9) (IsSeq.lst e1) wo_same fun D hD => ⟨fun i H10 => ∃ (acc : List V) (fs : List En), Und H9 H10 p q D acc ∧ Paired (EntA (hid D p H10)) acc fs ∧ fs.length = i ∧ ∀ e ∈ fs, GoodEn ks ps e, ⟨[], [], Und.start (Dr.refl L9.M.hp) hD, .nil, rfl, fun e he => nomatch he⟩, fun i H10 z => ?_, ?_, ?_⟩⟩
    · obtain ⟨_, _, u, _⟩ := z
      exact u.d.same.trans wo_same
    · rintro i x H10 hi ⟨acc, fs, u10, pa, fl, gf⟩
      obtain ⟨e, he, hE⟩ := pr_get e2 hi
      obtain ⟨r, rfl⟩ := hE.ref
      have ii := (List.getElem?_eq_some_iff.mp hi).1
      refine ⟨rfl, ?_⟩
      unfold tYes
      dsimp only
      rw [if_pos rfl]
      refine ⟨_, rfl, _, rfl, _, rfl, _, rfl, p, q, c, c4, r, ks, ps, e, rfl, L9.M.keep u10.d, hE.keep u10.d.same, ge e (List.mem_of_getElem? he), fun r' e' H11 d11 q1 q2 g' => ?_⟩
      have u11 := u10.dr d11
      have hid' := (q2 D acc u10.at_ u10.bp (hE.keep u10.outS)).keep (hid_b (b := D) (p := p) (o := .lst (acc ++ [.ref r'])))
      refine ⟨acc, u11.at_, small1000 (by rw [pr_len pa]; omega), acc ++ [.ref r'], fs ++ [e'], u11.set, pr_app (pr_imp pa fun _ _ h => (h.keep (u10.kh d11)).keep hid_b) (.cons hid' .nil), by simp [fl], fun e2 h' => ?_⟩
      rcases List.mem_append.mp h' with h | h
      · exact gf e2 h
      · rw [List.mem_singleton.mp h]
        exact g'
    · rintro H10 ⟨acc, fs, u10, pa, fl, gf⟩
      exact ⟨D, fs, rfl, L9.dr u10.d, ha9.keep u10.d.same, ⟨acc, wo_at u10.at_ u10.bp, pr_imp pa fun _ _ h => h.keep hid_wo⟩, by omega, gf⟩
  rintro σ H10 ⟨l, fs, rfl, L10, ha10, hf10, lf, gf⟩
  clear L9 ha9
  refine ⟨fun σ H11 => ∃ z : Int, σ = Sg a p c kp c4 (some (.ref b)) (some (.bl wh)) (some (.ref ab)) (some (.ref l)) (some (.int z)) none none none none none ∧ (z = -1 ∨ z = 0 ∨ z = 1) ∧ LW CK H11 p q c c4 kp b ks ps es ∧ AbsAt CA CK Cs (wo p H11) ab ks es wh ∧ EsA (wo p H11) l fs, ?_, ?_⟩
  · refine ⟨_, rfl, _, rfl, (by show 5 ≤ sizeLine; decide), fun n hn => ?_⟩
    have e0 := (Dr.refl L10.M.hp).new (o := .lst [.int 0, .int 0, .int 0, .int 1, .int (-1)]) hn
    refine ⟨p, q, n, _, rfl, e0.hp, upd_same, L10.M.hp.ap hn, (by show 0 < 5; decide), (by show 5 ≤ 1000; decide), fun x H11 hx hp11 k11 => ?_⟩
    have d11 := e0.draw k11 hp11
    obtain ⟨z, rfl, hz⟩ : ∃ z : Int, x = .int z ∧ (z = -1 ∨ z = 0 ∨ z = 1) := by
      simp only [List.mem_cons, List.not_mem_nil, or_false] at hx
      rcases hx with h | h | h | h | h
      · exact ⟨0, h, by decide⟩
      · exact ⟨0, h, by decide⟩
      · exact ⟨0, h, by decide⟩
      · exact ⟨1, h, by decide⟩
      · exact ⟨-1, h, by decide⟩
    exact ⟨z, rfl, hz, L10.dr d11, ha10.keep d11.same, hf10.keep d11.same⟩
  rintro σ H11 ⟨z, rfl, hz, L11, ha11, hf11⟩
  clear L10 ha10 hf10
  refine ⟨fun σ H12 => ∃ (l : Addr) (fs : List En), σ = Sg a p c kp c4 (some (.ref b)) (some (.bl wh)) (some (.ref ab)) (some (.ref l)) (some (.int z)) none none none none none ∧ LW CK H12 p q c c4 kp b ks ps es ∧ AbsAt CA CK Cs (wo p H12) ab ks es wh ∧ EsA (wo p H12) l fs ∧ fs.length ≤ 5 ∧ ∀ e ∈ fs, GoodEn ks ps e, ?_, ?_⟩
  · obtain ⟨fxs, g1, g2⟩ := hf11
    have lx := pr_len g2
    obtain ⟨g1', lp⟩ := wo_get g1
    refine ⟨_, rfl, _, _, rfl, rfl, _, rfl, ?_⟩
    refine ite2 (fun c1 => ?_) (fun c1 => ?_)
    · refine ⟨Nat.zero_le _, fun n1 q1 => ⟨Nat.zero_le _, fun n2 q2 => ⟨(by show 3 ≤ sizeLine; decide), fun n3 q3 => ⟨(by show 1 ≤ sizeLine; decide), fun n4 q4 => ⟨_, rfl, ?_⟩⟩⟩⟩⟩
      have d0 := Dr.refl L11.M.hp
      have e1 := d0.new (o := .lst []) q1
      have m1 := d0.newS (o := .lst []) q1
      have e2 := e1.new (o := .lst []) q2
      have m2 := e1.newS (o := .lst []) q2
      have e3 := e2.new (o := .lst [.str "unknown", .ref n1, .ref n2]) q3
      have m3 := e2.newS (o := .lst [.str "unknown", .ref n1, .ref n2]) q3
      have e4 := e3.new (o := .lst [.ref n3]) q4
      have m4 := e3.newS (o := .lst [.ref n3]) q4
      have s14 := m1.1.trans (m2.1.trans (m3.1.trans m4.1))
      refine ⟨n4, l, _, _, rfl, rfl, upd_same, s14 _ _ g1', Nat.le_of_lt (small1000 (by show 1 + fxs.length ≤ 1000; omega)), fun n5 q5 => ?_⟩
      have e5 := e4.new (o := .lst ([.ref n3] ++ fxs)) q5
      have m5 := e4.newS (o := .lst ([.ref n3] ++ fxs)) q5
      have s15 := wo_mono (p := p) (s14.trans m5.1)
      have w5 := wo_mono (p := p) m5.1
      have w4 := wo_mono (p := p) (m4.1.trans m5.1)
      have w3 := wo_mono (p := p) (m3.1.trans (m4.1.trans m5.1))
      have w2 := wo_mono (p := p) (m2.1.trans (m3.1.trans (m4.1.trans m5.1)))
      refine ⟨n5, ⟨.unknown, [], []⟩ :: fs, rfl, L11.dr e5, ha11.keep e5.same, ⟨_, m5.2, .cons ⟨n3, n1, n2, [], rfl, w4 _ _ m3.2, w2 _ _ m1.2, w3 _ _ m2.2, .nil⟩ (pr_imp g2 fun _ _ h => h.keep s15)⟩, by rw [List.length_cons]; omega, fun e he => ?_⟩
      rcases List.mem_cons.mp he with rfl | he
      · exact ⟨⟨fun _ _ => rfl, Nat.zero_le _, fun n hn => (nomatch hn), fun d hd => (nomatch hd), fun _ d hd => (nomatch hd)⟩, .nil, Nat.zero_le _, fun _ => rfl⟩
      · exact gf e he
    · have c1 : ¬ z < 0 := fun y => c1 (decide_eq_true y)
      obtain ⟨m, rfl⟩ : ∃ m : Nat, z = (m : Nat) := ⟨z.toNat, by omega⟩
      refine ⟨_, rfl, _, rfl, _, rfl, l, _, rfl, SqL.of g1', fun n1 q1 => ?_⟩
      rw [cut_dropA]
      have d0 := Dr.refl L11.M.hp
      have e1 := d0.new (o := .lst (fxs.drop m)) q1
      have m1 := d0.newS (o := .lst (fxs.drop m)) q1
      exact ⟨n1, fs.drop m, rfl, L11.dr e1, ha11.keep e1.same, ⟨_, m1.2, pr_imp (pr_drop g2 m) fun _ _ h => h.keep (wo_mono m1.1)⟩, by rw [List.length_drop]; omega, fun e he => gf e (List.mem_of_mem_drop he)⟩
  rintro σ H12 ⟨l2, fs2, rfl, L12, ha12, hf12, lf2, gf2⟩
  clear L11 ha11 hf11 gf lf hz
  refine ⟨fun σ H13 => ∃ lw : Bool, σ = Sg a p c kp c4 (some (.ref b)) (some (.bl wh)) (some (.ref ab)) (some (.ref l2)) (some (.int z)) (some (.bl lw)) none none none none ∧ LW CK H13 p q c c4 kp b ks ps es ∧ AbsAt CA CK Cs (wo p H13) ab ks es wh ∧ EsA (wo p H13) l2 fs2, ?_, ?_⟩
  · refine ⟨_, rfl, p, q, 4, rfl, L12.M.hp, by decide, by decide, fun y H13 _ _ hp13 k13 => ⟨rfl, _, rfl, ?_⟩⟩
    have d13 : Dr H12 H13 p q := ⟨hp13, k13⟩
    exact ⟨L12.dr d13, ha12.keep d13.same, hf12.keep d13.same⟩
  rintro σ H13 ⟨lw, rfl, L13, ha13, hf13⟩
  clear L12 ha12 hf12
  refine ⟨fun σ H14 => ∃ ob : Addr, σ = Sg a p c kp c4 (some (.ref b)) (some (.bl wh)) (some (.ref ab)) (some (.ref l2)) (some (.int z)) (some (.bl lw)) (some (.ref ob)) none none none ∧ LW CK H14 p q c c4 kp b ks ps es ∧ AbsAt CA CK Cs (wo p H14) ab ks es wh ∧ EsA (wo p H14) l2 fs2 ∧ AbsAt CA CK Cs (wo p H14) ob ks fs2 lw, ?_, ?_⟩
  · obtain ⟨exs, e1, e2⟩ := hf13
    have lx := pr_len e2
    refine ⟨_, rfl, _, rfl, l2, rfl, lc_pure (g := gName 15) (fun j v H' => ∀ e, fs2[j]? = some e → EnV Cs H' v e) (fun j v H' H'' q s e he => (q e he).keep s) (IsSeq.lst (wo_get e1).1) (Same.refl _) (by omega) ?_ ?_ fun x σ H Q Q' q z => q _ _ z⟩
    · rintro D i x H8 k' hi hD s8 ⟨acc, hacc⟩ kk
      obtain ⟨e, he, hE⟩ := pr_get e2 hi
      obtain ⟨r, rfl⟩ := hE.ref
      refine ⟨rfl, ?_⟩
      refine ⟨_, rfl, r, ks, ps, e, rfl, (hE.keep wo_same).keep s8, gf2 e (List.mem_of_getElem? he), gk, fun t H9 s9 ht => kk _ _ s9 fun e' he' => ?_⟩
      rw [he] at he'
      cases he'
      exact ⟨t, rfl, ht.offL (s9 _ _ hacc)⟩
    · intro D zs H8 hD s8 hd8 lz g8
      refine ⟨_, rfl, rfl, rfl, fun x dx hx hdx ne => ?_⟩
      have px : Paired (EnV Cs H8) zs fs2 := pr_of (by omega) fun j v d q1 q2 => (g8 j v q1 d q2).keep wo_same
      refine abs_new (ps := ps) ((L13.same s8).kd.keep wo_same) hd8 px (by omega) (fit gf2) gk L13.M.fine (by have := L13.M.few; omega) hx hdx fun H9 s9 hz => ?_
      have s89 := s8.trans s9
      have L9 := L13.same s89
      exact ⟨rfl, x, rfl, L9, ha13.keep (wo_mono s89), ⟨exs, wo_mono s89 _ _ e1, pr_imp e2 fun _ _ h => h.keep (wo_mono s89)⟩, hz.wo L9.M.hp⟩
  rintro σ H14 ⟨ob, rfl, L14, ha14, hf14, ho14⟩
  clear L13 ha13 hf13
  have okE := es_ok gk L14.M.fine (by omega) ge
  have okF := es_ok gk L14.M.fine (by omega) gf2
  have enE : ∀ e ∈ es, EnOk e := fun e he => (ge e he).fit.ok gk L14.M.fine
  have enF : ∀ e ∈ fs2, EnOk e := fun e he => (gf2 e he).fit.ok gk L14.M.fine
  have khi := gk.hi
  have kok := gk.ok
  refine ⟨fun σ H15 => σ = Sg a p c kp c4 (some (.ref b)) (some (.bl wh)) (some (.ref ab)) (some (.ref l2)) (some (.int z)) (some (.bl lw)) (some (.ref ob)) none none none ∧ Same H14 H15, ?_, ?_⟩
  · have h0 := ha14.keep wo_same
    obtain ⟨dx, fs', kp', yt, axs, h1, h2, h3, h4, h5, h6, h7, h8⟩ := h0.ex
    refine ⟨_, rfl, ab, dx, fs', rfl, h1, h5 _ (by decide +kernel) (by decide +kernel) (by decide +kernel), _, rfl, ab, ob, ks, ks, es, fs2, wh, lw, rfl, h0, ho14.keep wo_same, kok, kok, .inr ⟨rfl, by omega, by omega, by omega, enE, enF, fun H15 s15 => ?_⟩⟩
    refine ⟨_, rfl, _, rfl, _, rfl, _, rfl, _, rfl, c, b, l2, ks, es, fs2, wh, lw, rfl, (L14.M.cu.keep wo_same).keep s15, gk, (L14.es.keep wo_same).keep s15, (hf14.keep wo_same).keep s15, okE, okF, by omega, fun e he => by have := (ge e he).few; omega, fun H16 s16 => ?_⟩
    refine ⟨_, _, rfl, ?_⟩
    rw [beq_self_eq_true]
    exact ⟨_, rfl, iteF ⟨rfl, s15.trans s16⟩⟩
  rintro σ H15 ⟨rfl, s15⟩
  refine ⟨fun σ H16 => σ = Sg a p c kp c4 (some (.ref b)) (some (.bl wh)) (some (.ref ab)) (some (.ref l2)) (some (.int z)) (some (.bl lw)) (some (.ref ob)) none none none ∧ Same H14 H16, ?_, ?_⟩
  · have h0 := (ho14.keep wo_same).keep s15
    obtain ⟨dx, fs', kp', yt, axs, h1, h2, h3, h4, h5, h6, h7, h8⟩ := h0.ex
    refine ⟨_, rfl, ob, dx, fs', rfl, h1, h5 _ (by decide +kernel) (by decide +kernel) (by decide +kernel), _, rfl, ob, ab, ks, ks, fs2, es, lw, wh, rfl, h0, (ha14.keep wo_same).keep s15, kok, kok, .inr ⟨rfl, by omega, by omega, by omega, enF, enE, fun H16 s16 => ?_⟩⟩
    have s16 := s15.trans s16
    refine ⟨_, rfl, _, rfl, _, rfl, _, rfl, _, rfl, c, l2, b, ks, fs2, es, lw, wh, rfl, (L14.M.cu.keep wo_same).keep s16, gk, (hf14.keep wo_same).keep s16, (L14.es.keep wo_same).keep s16, okF, okE, by omega, fun e he => by have := (gf2 e he).few; omega, fun H17 s17 => ?_⟩
    refine ⟨_, _, rfl, ?_⟩
    rw [beq_self_eq_true]
    exact ⟨_, rfl, iteF ⟨rfl, s16.trans s17⟩⟩
  rintro σ H16 ⟨rfl, s16⟩
  clear s15
  obtain ⟨exs, e1, e2⟩ := L14.es
  obtain ⟨fxs, g1, g2⟩ := hf14
  have lxe := pr_len e2
  have lxf := pr_len g2
  have e1' := (wo_get e1).1
  have g1' := (wo_get g1).1
  refine ⟨fun σ H17 => ∃ v12 v13 v14 : Option V, σ = Sg a p c kp c4 (some (.ref b)) (some (.bl wh)) (some (.ref ab)) (some (.ref l2)) (some (.int z)) (some (.bl lw)) (some (.ref ob)) v12 v13 v14 ∧ Same H14 H17, ?_, ?_⟩
  · refine ⟨_, rfl, b, exs, rfl, .inl (SqL.of (s16 _ _ e1')), _, rfl, l2, fxs, rfl, .inl (SqL.of (s16 _ _ g1')), _, _, rfl, _, rfl, ?_⟩
    have mn : ∃ n : Nat, (if ((fxs.length : Nat) : Int) < (exs.length : Nat) then ((fxs.length : Nat) : Int) else (exs.length : Nat)) = (n : Nat) ∧ n ≤ exs.length ∧ n ≤ fxs.length := by
      split
      · exact ⟨fxs.length, rfl, by omega, Nat.le_refl _⟩
      · exact ⟨exs.length, rfl, Nat.le_refl _, by omega⟩
    obtain ⟨n, en, n1, n2⟩ := mn
    rw [en]
    refine ⟨by omega, by omega, for_range (n := ((n : Nat) : Int).toNat) (fun i σ H17 => ∃ v12 v13 v14 : Option V, σ = Sg a p c kp c4 (some (.ref b)) (some (.bl wh)) (some (.ref ab)) (some (.ref l2)) (some (.int z)) (some (.bl lw)) (some (.ref ob)) v12 v13 v14 ∧ Same H14 H17) ⟨none, none, none, rfl, s16⟩ ?_ ?_⟩
    · rintro i σ H17 hi ⟨v12, v13, v14, rfl, s17⟩
      have i1 : i < exs.length := by omega
      have i2 : i < fxs.length := by omega
      obtain ⟨v, hv⟩ : ∃ v, exs[i]? = some v := ⟨_, List.getElem?_eq_getElem i1⟩
      obtain ⟨u, hu⟩ : ∃ u, fxs[i]? = some u := ⟨_, List.getElem?_eq_getElem i2⟩
      obtain ⟨e, he, hE⟩ := pr_get e2 hv
      obtain ⟨f, hf, hF⟩ := pr_get g2 hu
      obtain ⟨r1, rfl⟩ := hE.ref
      obtain ⟨r2, rfl⟩ := hF.ref
      have mE := List.mem_of_getElem? he
      have mF := List.mem_of_getElem? hf
      have hE' := hE.keep wo_same
      have hF' := hF.keep wo_same
      have z1 : atI exs ((0 : Int) + (i : Nat)) = some (.ref r1) := by rw [Int.zero_add]; exact atI_nat hv
      have z2 : atI fxs ((0 : Int) + (i : Nat)) = some (.ref r2) := by rw [Int.zero_add]; exact atI_nat hu
      refine ⟨fun σ H18 => ∃ t1 t2 : Addr, σ = Sg a p c kp c4 (some (.ref b)) (some (.bl wh)) (some (.ref ab)) (some (.ref l2)) (some (.int z)) (some (.bl lw)) (some (.ref ob)) (some (.int ((0 : Int) + (i : Nat)))) (some (.ref t1)) (some (.ref t2)) ∧ Same H14 H18 ∧ EnAt Cs H18 t1 e ∧ EnAt Cs H18 t2 f, ?_, ?_⟩
      · refine ⟨_, rfl, _, rfl, b, exs, _, _, rfl, rfl, SqL.of (s17 _ _ e1'), z1, r1, ks, ps, e, rfl, hE'.keep s17, ge e mE, gk, fun t1 H18 s18 ht1 => ?_⟩
        have s1718 := s17.trans s18
        refine ⟨_, rfl, _, rfl, l2, fxs, _, _, rfl, rfl, SqL.of (s1718 _ _ g1'), z2, r2, ks, ps, f, rfl, hF'.keep s1718, gf2 f mF, gk, fun t2 H19 s19 ht2 => ?_⟩
        exact ⟨_, _, rfl, t1, t2, rfl, s1718.trans s19, ht1.keep s19, ht2⟩
      rintro σ H18 ⟨t1, t2, rfl, s18, ht1, ht2⟩
      have oke : OkE [e, f] := ⟨by show 2 ≤ 100; decide, fun x hx => by
        rcases List.mem_cons.mp hx with rfl | hx
        · exact okE.2 x mE
        · rw [List.mem_singleton.mp hx]
          exact okF.2 f mF⟩
      have okf : OkE [f, e] := ⟨by show 2 ≤ 100; decide, fun x hx => by
        rcases List.mem_cons.mp hx with rfl | hx
        · exact okF.2 x mF
        · rw [List.mem_singleton.mp hx]
          exact okE.2 e mE⟩
      have fe := (ge e mE).few
      have ff := (gf2 f mF).few
      have kd0 := L14.kd.keep wo_same
      have cu0 := L14.M.cu.keep wo_same
      refine ⟨fun σ H19 => σ = Sg a p c kp c4 (some (.ref b)) (some (.bl wh)) (some (.ref ab)) (some (.ref l2)) (some (.int z)) (some (.bl lw)) (some (.ref ob)) (some (.int ((0 : Int) + (i : Nat)))) (some (.ref t1)) (some (.ref t2)) ∧ Same H18 H19, ?_, ?_⟩
      · refine ⟨_, rfl, _, rfl, _, rfl, kp, t1, t2, ks, e, f, rfl, ht1, enE e mE, ht2, enF f mF, kd0.keep s18, by omega, fun H19 s19 => ?_⟩
        have s1819 := s18.trans s19
        refine ⟨_, rfl, _, rfl, _, rfl, b, exs, _, _, rfl, rfl, SqL.of (s1819 _ _ e1'), z1, _, rfl, _, rfl, l2, fxs, _, _, rfl, rfl, SqL.of (s1819 _ _ g1'), z2, c, r1, r2, ks, e, f, rfl, cu0.keep s1819, gk, hE'.keep s1819, hF'.keep s1819, oke, by omega, fun H20 s20 => ?_⟩
        refine ⟨_, _, rfl, ?_⟩
        rw [beq_self_eq_true]
        exact ⟨_, rfl, iteF ⟨rfl, s19.trans s20⟩⟩
      rintro σ H19 ⟨rfl, s19⟩
      have s1819 := s18.trans s19
      refine ⟨_, rfl, _, rfl, _, rfl, kp, t2, t1, ks, f, e, rfl, ht2.keep s19, enF f mF, ht1.keep s19, enE e mE, kd0.keep s1819, by omega, fun H20 s20 => ?_⟩
      have s1820 := s1819.trans s20
      refine ⟨_, rfl, _, rfl, _, rfl, l2, fxs, _, _, rfl, rfl, SqL.of (s1820 _ _ g1'), z2, _, rfl, _, rfl, b, exs, _, _, rfl, rfl, SqL.of (s1820 _ _ e1'), z1, c, r2, r1, ks, f, e, rfl, cu0.keep s1820, gk, hF'.keep s1820, hE'.keep s1820, okf, by omega, fun H21 s21 => ?_⟩
      refine ⟨_, _, rfl, ?_⟩
      rw [beq_self_eq_true]
      exact ⟨_, rfl, iteF ⟨_, _, _, rfl, s1820.trans s21⟩⟩
    · rintro σ H17 ⟨v12, v13, v14, rfl, s17⟩
      exact ⟨_, _, _, rfl, s17⟩
  rintro σ H17 ⟨v12, v13, v14, rfl, s17⟩
  exact ⟨_, rfl, _, rfl, c, ab, ks, es, wh, rfl, (L14.M.cu.keep wo_same).keep s17, gk, nz, l3, (ha14.keep wo_same).keep s17, fun H18 _ => rfl⟩
end Kx

set_option maxHeartbeats 8000000
namespace Kx
open PySem PySem.Spec PyProof.Rows L2
section
variable {K : PySem.W.Frag}
abbrev AbsD (K : PySem.W.Frag) (f : Addr) (fd : FuncData) : Prop := FunD K "__init__" "Abstract.__init__" (defArgs sAbstract_init) (defBody sAbstract_init) (defScope sAbstract_init) [] [("whole", V.bl false)] f fd
theorem vals_app : ∀ {vs zs : List V} {us ws : List Value}, Vals vs us → Vals zs ws → Vals (vs ++ zs) (us ++ ws)
  | _, _, _, _, .nil, h => h
  | _, _, _, _, .cons a t, h => .cons a (vals_app t h)
theorem abs_bindsK {f : Addr} {fd : FuncData} (F : AbsD K f fd) : ∃ g, KBn K fd ["self", "kinds", "years", "whole"] 3 ["whole"] g (fun vs zs => vs ++ zs) := by
  obtain ⟨mv, h⟩ := FunD.kbinds0 F (ps := ["self", "kinds", "years", "whole"]) 3 ["whole"] [] (fun vs _ zs => vs ++ zs) (by simp) (fun q h => nomatch h) (fun r1 _ r3 => vals_app r1 r3) fun D doc pm an cdv ct us mv ws l1 l2 l3 => match us, mv, ws, l1, l2, l3 with | [_, _, _], [], [_], _, _, _ => rfl
  exact ⟨_, h⟩
theorem abs_binds3 {f : Addr} {fd : FuncData} (F : AbsD K f fd) : ∃ ds, Vals [V.bl false] ds ∧ Binds K fd ["self", "kinds", "years", "whole"] ds := by
  obtain ⟨ds, r, b⟩ := FunD.binds0 F (ps := ["self", "kinds", "years", "whole"]) 3 (by simp) rfl fun D doc pm an cdv ct us ks l1 l2 => match us, ks, l1, l2 with | [_, _, _], [_], _, _ => ⟨_, _, _, _, _, _, rfl, rfl, rfl⟩
  exact ⟨ds, r, b⟩
end
end Kx

set_option maxHeartbeats 8000000
namespace Kx
open PySem PySem.Spec PyProof.Rows L2
abbrev bmV : List Value := [.type "ValueError", .type "Exception", .type "BaseException", .type "object"]
section
variable {K : PySem.W.Frag}
theorem hist_binds3 {ed f : Addr} {fd : FuncData} (F : FunD K "__init__" "History.__init__" (defArgs sHistory_init) (defBody sHistory_init) (defScope sHistory_init) [V.ref ed] [] f fd) : Binds K fd ["self", "kinds", "years"] [] := by
  obtain ⟨ds, r, b⟩ := F.binds1 (ps := ["self", "kinds", "years"]) 3 1 (by simp) rfl fun T kV doc pm an cdv ct us its h1 h2 => match us, its, h1, h2 with | [_, _, _], [_], _, _ => ⟨_, rfl, rfl⟩
  cases r
  exact b
theorem hist_binds2x {ed f : Addr} {fd : FuncData} (F : FunD K "__init__" "History.__init__" (defArgs sHistory_init) (defBody sHistory_init) (defScope sHistory_init) [V.ref ed] [] f fd) : ∃ ds, Vals [V.ref ed] ds ∧ Binds K fd ["self", "kinds", "years"] ds := by
  obtain ⟨ds, r, b⟩ := F.binds1 (ps := ["self", "kinds", "years"]) 2 0 (by simp) rfl fun T kV doc pm an cdv ct us its h1 h2 => match us, its, h1, h2 with | [_, _], [_], _, _ => ⟨_, rfl, rfl⟩
  exact ⟨ds, r, b⟩
theorem hist_binds2 {ed f : Addr} {fd : FuncData} (F : FunD K "__init__" "History.__init__" (defArgs sHistory_init) (defBody sHistory_init) (defScope sHistory_init) [V.ref ed] [] f fd) : Binds K fd ["self", "kinds", "years"] [Value.ref ed] := by
  obtain ⟨ds, r, b⟩ := hist_binds2x F
  cases r with
  | cons h t =>
    cases t
    cases h
    exact b
def csOf (Ck Cw Cu Cn Ch : Addr) : Ew → Addr
  | .known => Ck
  | .without => Cw
  | .unknown => Cu
  | .noted => Cn
  | .holding => Ch
end
theorem all_mk {l : PySem.W.OpenLaw} {w : World} {K : PySem.W.Frag} {h : Heap} {mg : Str → Option Value} {fa : Addr} {t2 t3 t4 t5 t6 t7 t8 t9 : Tok} (X : K.In h) (G : h.Ns mainGlobals mg) (hfa : mg "law" = some (.ref fa))
    {f0 f1 f2 f3 f4 f5 f6 f7 f8 f9 f10 f11 f12 f13 f14 f15 f16 f17 f18 f19 f20 f21 f22 f23 f24 f25 f26 f27 f28 f29 f30 f31 f32 f33 f34 f35 f36 f37 f38 f39 f40 f41 g0 g1 g2 g3 g4 g5 g6 g7 g8 g9 g10 g11 g12 g13 g14 g15 g16 g17 g18 g19 g20 g21 g22 C CK CA CB CKB CO CE Ck Ch Cu Cw Cn pT ed pD : Addr} {od0 an0 od1 an1 od2 an2 od3 an3 od4 an4 od5 an5 od6 an6 od7 an7 od8 an8 od9 an9 od10 an10 od11 an11 od12 an12 od13 an13 od14 an14 od15 an15 od16 an16 od17 an17 od18 an18 od19 an19 od20 an20 od21 an21 od22 an22 od23 an23 od24 an24 od25 an25 od26 an26 od27 an27 od28 an28 od29 an29 od30 an30 od31 an31 od32 an32 od33 an33 od34 an34 od35 an35 od36 an36 od37 an37 od38 an38 od39 an39 od40 an40 od41 an41 pd0 bn0 pd1 bn1 pd2 bn2 pd3 bn3 pd4 bn4 pd5 bn5 pd6 bn6 pd7 bn7 pd8 bn8 pd9 bn9 pd10 bn10 pd11 bn11 pd12 bn12 pd13 bn13 pd14 bn14 pd15 bn15 pd16 bn16 pd17 bn17 pd18 bn18 pd19 bn19 pd20 bn20 pd21 bn21 pd22 bn22 tod eod : Option Addr} {sl0 sl1 sl2 sl3 sl4 sl5 sl6 sl7 sl8 sl9 sl10 sl11 sl12 sl13 sl14 sl15 sl16 sl17 sl18 sl19 sl20 sl21 sl22 sl23 sl24 sl25 sl26 sl27 sl28 sl29 sl30 sl31 sl32 sl33 sl34 sl35 sl36 sl37 sl38 sl39 sl40 sl41 tl0 tl1 tl2 tl3 tl4 tl5 tl6 tl7 tl8 tl9 tl10 tl11 tl12 tl13 tl14 tl15 tl16 tl17 tl18 tl19 tl20 tl21 tl22 tsl esl : Array (Option Value)} {oc0 kV0 dc0 pm0 cd0 ct0 oc1 kV1 dc1 pm1 cd1 ct1 oc2 kV2 dc2 pm2 cd2 ct2 oc3 kV3 dc3 pm3 cd3 ct3 oc4 kV4 dc4 pm4 cd4 ct4 oc5 kV5 dc5 pm5 cd5 ct5 oc6 kV6 dc6 pm6 cd6 ct6 oc7 kV7 dc7 pm7 cd7 ct7 oc8 kV8 dc8 pm8 cd8 ct8 oc9 kV9 dc9 pm9 cd9 ct9 oc10 kV10 dc10 pm10 cd10 ct10 oc11 kV11 dc11 pm11 cd11 ct11 oc12 kV12 dc12 pm12 cd12 ct12 oc13 kV13 dc13 pm13 cd13 ct13 oc14 kV14 dc14 pm14 cd14 ct14 oc15 kV15 dc15 pm15 cd15 ct15 oc16 kV16 dc16 pm16 cd16 ct16 oc17 kV17 dc17 pm17 cd17 ct17 oc18 kV18 dc18 pm18 cd18 ct18 oc19 kV19 dc19 pm19 cd19 ct19 oc20 kV20 dc20 pm20 cd20 ct20 oc21 kV21 dc21 pm21 cd21 ct21 oc22 kV22 dc22 pm22 cd22 ct22 oc23 kV23 dc23 pm23 cd23 ct23 oc24 kV24 dc24 pm24 cd24 ct24 oc25 kV25 dc25 pm25 cd25 ct25 oc26 kV26 dc26 pm26 cd26 ct26 oc27 kV27 dc27 pm27 cd27 ct27 oc28 kV28 dc28 pm28 cd28 ct28 oc29 kV29 dc29 pm29 cd29 ct29 oc30 kV30 dc30 pm30 cd30 ct30 oc31 kV31 dc31 pm31 cd31 ct31 oc32 kV32 dc32 pm32 cd32 ct32 oc33 kV33 dc33 pm33 cd33 ct33 oc34 kV34 dc34 pm34 cd34 ct34 oc35 kV35 dc35 pm35 cd35 ct35 oc36 kV36 dc36 pm36 cd36 ct36 oc37 kV37 dc37 pm37 cd37 ct37 oc38 kV38 dc38 pm38 cd38 ct38 oc39 kV39 dc39 pm39 cd39 ct39 oc40 kV40 dc40 pm40 cd40 ct40 oc41 kV41 dc41 pm41 cd41 ct41 pc0 lV0 ec0 qm0 dd0 dt0 pc1 lV1 ec1 qm1 dd1 dt1 pc2 lV2 ec2 qm2 dd2 dt2 pc3 lV3 ec3 qm3 dd3 dt3 pc4 lV4 ec4 qm4 dd4 dt4 pc5 lV5 ec5 qm5 dd5 dt5 pc6 lV6 ec6 qm6 dd6 dt6 pc7 lV7 ec7 qm7 dd7 dt7 pc8 lV8 ec8 qm8 dd8 dt8 pc9 lV9 ec9 qm9 dd9 dt9 pc10 lV10 ec10 qm10 dd10 dt10 pc11 lV11 ec11 qm11 dd11 dt11 pc12 lV12 ec12 qm12 dd12 dt12 pc13 lV13 ec13 qm13 dd13 dt13 pc14 lV14 ec14 qm14 dd14 dt14 pc15 lV15 ec15 qm15 dd15 dt15 pc16 lV16 ec16 qm16 dd16 dt16 pc17 lV17 ec17 qm17 dd17 dt17 pc18 lV18 ec18 qm18 dd18 dt18 pc19 lV19 ec19 qm19 dd19 dt19 pc20 lV20 ec20 qm20 dd20 dt20 pc21 lV21 ec21 qm21 dd21 dt21 pc22 ec22 qm22 dd22 dt22 toc : Value} {tn en : Nat}
    (a0 : PySem.W.nsIn K mainGlobals "is_whole" = some (some (.ref f0)))
    (l0 : K.lookup f0 = some ⟨oc0, od0, .func (PySem.W.fnOf "is_whole" "is_whole" (defArgs sWhole) (defBody sWhole) (defScope sWhole) .none kV0 dc0 pm0 an0 cd0 ct0), sl0⟩)
    (c0 : PySem.W.codeIn K cd0 "is_whole" = true)
    (k0 : PySem.W.keepIn K (.ref f0) = true)
    (a1 : PySem.W.nsIn K mainGlobals "is_label" = some (some (.ref f1)))
    (l1 : K.lookup f1 = some ⟨oc1, od1, .func (PySem.W.fnOf "is_label" "is_label" (defArgs sLabel) (defBody sLabel) (defScope sLabel) .none kV1 dc1 pm1 an1 cd1 ct1), sl1⟩)
    (c1 : PySem.W.codeIn K cd1 "is_label" = true)
    (k1 : PySem.W.keepIn K (.ref f1) = true)
    (a2 : PySem.W.nsIn K mainGlobals "is_sequence" = some (some (.ref f2)))
    (l2 : K.lookup f2 = some ⟨oc2, od2, .func (PySem.W.fnOf "is_sequence" "is_sequence" (defArgs sSeq) (defBody sSeq) (defScope sSeq) .none kV2 dc2 pm2 an2 cd2 ct2), sl2⟩)
    (c2 : PySem.W.codeIn K cd2 "is_sequence" = true)
    (k2 : PySem.W.keepIn K (.ref f2) = true)
    (a3 : PySem.W.nsIn K mainGlobals "entry_within" = some (some (.ref f3)))
    (l3 : K.lookup f3 = some ⟨oc3, od3, .func (PySem.W.fnOf "entry_within" "entry_within" (defArgs sEntryWithin) (defBody sEntryWithin) (defScope sEntryWithin) .none kV3 dc3 pm3 an3 cd3 ct3), sl3⟩)
    (c3 : PySem.W.codeIn K cd3 "entry_within" = true)
    (k3 : PySem.W.keepIn K (.ref f3) = true)
    (a4 : PySem.W.nsIn K mainGlobals "_kind_names" = some (some (.ref f4)))
    (l4 : K.lookup f4 = some ⟨oc4, od4, .func (PySem.W.fnOf "_kind_names" "_kind_names" (defArgs sKindNames) (defBody sKindNames) (defScope sKindNames) .none kV4 dc4 pm4 an4 cd4 ct4), sl4⟩)
    (c4 : PySem.W.codeIn K cd4 "_kind_names" = true)
    (k4 : PySem.W.keepIn K (.ref f4) = true)
    (a5 : PySem.W.nsIn K mainGlobals "_told_deeds" = some (some (.ref f5)))
    (l5 : K.lookup f5 = some ⟨oc5, od5, .func (PySem.W.fnOf "_told_deeds" "_told_deeds" (defArgs sToldDeeds) (defBody sToldDeeds) (defScope sToldDeeds) .none kV5 dc5 pm5 an5 cd5 ct5), sl5⟩)
    (c5 : PySem.W.codeIn K cd5 "_told_deeds" = true)
    (k5 : PySem.W.keepIn K (.ref f5) = true)
    (a6 : PySem.W.nsIn K mainGlobals "_others" = some (some (.ref f6)))
    (l6 : K.lookup f6 = some ⟨oc6, od6, .func (PySem.W.fnOf "_others" "_others" (defArgs sOthers) (defBody sOthers) (defScope sOthers) .none kV6 dc6 pm6 an6 cd6 ct6), sl6⟩)
    (c6 : PySem.W.codeIn K cd6 "_others" = true)
    (k6 : PySem.W.keepIn K (.ref f6) = true)
    (a7 : PySem.W.nsIn K mainGlobals "_row_fault" = some (some (.ref f7)))
    (l7 : K.lookup f7 = some ⟨oc7, od7, .func (PySem.W.fnOf "_row_fault" "_row_fault" (defArgs sRowFault) (defBody sRowFault) (defScope sRowFault) .none kV7 dc7 pm7 an7 cd7 ct7), sl7⟩)
    (c7 : PySem.W.codeIn K cd7 "_row_fault" = true)
    (k7 : PySem.W.keepIn K (.ref f7) = true)
    (a8 : PySem.W.nsIn K mainGlobals "_named_in" = some (some (.ref f8)))
    (l8 : K.lookup f8 = some ⟨oc8, od8, .func (PySem.W.fnOf "_named_in" "_named_in" (defArgs sNamedIn) (defBody sNamedIn) (defScope sNamedIn) .none kV8 dc8 pm8 an8 cd8 ct8), sl8⟩)
    (c8 : PySem.W.codeIn K cd8 "_named_in" = true)
    (k8 : PySem.W.keepIn K (.ref f8) = true)
    (a9 : PySem.W.nsIn K mainGlobals "_check_persons" = some (some (.ref f9)))
    (l9 : K.lookup f9 = some ⟨oc9, od9, .func (PySem.W.fnOf "_check_persons" "_check_persons" (defArgs sCheckPersons) (defBody sCheckPersons) (defScope sCheckPersons) .none kV9 dc9 pm9 an9 cd9 ct9), sl9⟩)
    (c9 : PySem.W.codeIn K cd9 "_check_persons" = true)
    (k9 : PySem.W.keepIn K (.ref f9) = true)
    (a10 : PySem.W.nsIn K mainGlobals "_entry_fault" = some (some (.ref f10)))
    (l10 : K.lookup f10 = some ⟨oc10, od10, .func (PySem.W.fnOf "_entry_fault" "_entry_fault" (defArgs sEntryFault) (defBody sEntryFault) (defScope sEntryFault) .none kV10 dc10 pm10 an10 cd10 ct10), sl10⟩)
    (c10 : PySem.W.codeIn K cd10 "_entry_fault" = true)
    (k10 : PySem.W.keepIn K (.ref f10) = true)
    (a11 : PySem.W.nsIn K mainGlobals "_is_too_long" = some (some (.ref f11)))
    (l11 : K.lookup f11 = some ⟨oc11, od11, .func (PySem.W.fnOf "_is_too_long" "_is_too_long" (defArgs sIsTooLong) (defBody sIsTooLong) (defScope sIsTooLong) .none kV11 dc11 pm11 an11 cd11 ct11), sl11⟩)
    (c11 : PySem.W.codeIn K cd11 "_is_too_long" = true)
    (k11 : PySem.W.keepIn K (.ref f11) = true)
    (a12 : PySem.W.nsIn K mainGlobals "_year_of" = some (some (.ref f12)))
    (l12 : K.lookup f12 = some ⟨oc12, od12, .func (PySem.W.fnOf "_year_of" "_year_of" (defArgs sYearOf) (defBody sYearOf) (defScope sYearOf) .none kV12 dc12 pm12 an12 cd12 ct12), sl12⟩)
    (c12 : PySem.W.codeIn K cd12 "_year_of" = true)
    (k12 : PySem.W.keepIn K (.ref f12) = true)
    (a13 : PySem.W.nsIn K mainGlobals "_law_mix" = some (some (.ref f13)))
    (l13 : K.lookup f13 = some ⟨oc13, od13, .func (PySem.W.fnOf "_law_mix" "_law_mix" (defArgs sMix) (defBody sMix) (defScope sMix) .none kV13 dc13 pm13 an13 cd13 ct13), sl13⟩)
    (c13 : PySem.W.codeIn K cd13 "_law_mix" = true)
    (k13 : PySem.W.keepIn K (.ref f13) = true)
    (a14 : PySem.W.nsIn K mainGlobals "_law_hand" = some (some (.ref f14)))
    (l14 : K.lookup f14 = some ⟨oc14, od14, .func (PySem.W.fnOf "_law_hand" "_law_hand" (defArgs sHand) (defBody sHand) (defScope sHand) .none kV14 dc14 pm14 an14 cd14 ct14), sl14⟩)
    (c14 : PySem.W.codeIn K cd14 "_law_hand" = true)
    (k14 : PySem.W.keepIn K (.ref f14) = true)
    (a15 : PySem.W.nsIn K mainGlobals "_law_draw" = some (some (.ref f15)))
    (l15 : K.lookup f15 = some ⟨oc15, od15, .func (PySem.W.fnOf "_law_draw" "_law_draw" (defArgs sDraw) (defBody sDraw) (defScope sDraw) .none kV15 dc15 pm15 an15 cd15 ct15), sl15⟩)
    (c15 : PySem.W.codeIn K cd15 "_law_draw" = true)
    (k15 : PySem.W.keepIn K (.ref f15) = true)
    (a16 : PySem.W.nsIn K mainGlobals "_law_one" = some (some (.ref f16)))
    (l16 : K.lookup f16 = some ⟨oc16, od16, .func (PySem.W.fnOf "_law_one" "_law_one" (defArgs sOne) (defBody sOne) (defScope sOne) .none kV16 dc16 pm16 an16 cd16 ct16), sl16⟩)
    (c16 : PySem.W.codeIn K cd16 "_law_one" = true)
    (k16 : PySem.W.keepIn K (.ref f16) = true)
    (a17 : PySem.W.nsIn K mainGlobals "_law_arity" = some (some (.ref f17)))
    (l17 : K.lookup f17 = some ⟨oc17, od17, .func (PySem.W.fnOf "_law_arity" "_law_arity" (defArgs sLArity) (defBody sLArity) (defScope sLArity) .none kV17 dc17 pm17 an17 cd17 ct17), sl17⟩)
    (c17 : PySem.W.codeIn K cd17 "_law_arity" = true)
    (k17 : PySem.W.keepIn K (.ref f17) = true)
    (a18 : PySem.W.nsIn K mainGlobals "_law_deed" = some (some (.ref f18)))
    (l18 : K.lookup f18 = some ⟨oc18, od18, .func (PySem.W.fnOf "_law_deed" "_law_deed" (defArgs sLDeed) (defBody sLDeed) (defScope sLDeed) .none kV18 dc18 pm18 an18 cd18 ct18), sl18⟩)
    (c18 : PySem.W.codeIn K cd18 "_law_deed" = true)
    (k18 : PySem.W.keepIn K (.ref f18) = true)
    (a19 : PySem.W.nsIn K mainGlobals "_law_years" = some (some (.ref f19)))
    (l19 : K.lookup f19 = some ⟨oc19, od19, .func (PySem.W.fnOf "_law_years" "_law_years" (defArgs sLYears) (defBody sLYears) (defScope sLYears) .none kV19 dc19 pm19 an19 cd19 ct19), sl19⟩)
    (c19 : PySem.W.codeIn K cd19 "_law_years" = true)
    (k19 : PySem.W.keepIn K (.ref f19) = true)
    (a20 : PySem.W.nsIn K mainGlobals "_law_truth" = some (some (.ref f20)))
    (l20 : K.lookup f20 = some ⟨oc20, od20, .func (PySem.W.fnOf "_law_truth" "_law_truth" (defArgs sLTruth) (defBody sLTruth) (defScope sLTruth) .none kV20 dc20 pm20 an20 cd20 ct20), sl20⟩)
    (c20 : PySem.W.codeIn K cd20 "_law_truth" = true)
    (k20 : PySem.W.keepIn K (.ref f20) = true)
    (a21 : PySem.W.nsIn K mainGlobals "_law_persons" = some (some (.ref f21)))
    (l21 : K.lookup f21 = some ⟨oc21, od21, .func (PySem.W.fnOf "_law_persons" "_law_persons" (defArgs sLPersons) (defBody sLPersons) (defScope sLPersons) .none kV21 dc21 pm21 an21 cd21 ct21), sl21⟩)
    (c21 : PySem.W.codeIn K cd21 "_law_persons" = true)
    (k21 : PySem.W.keepIn K (.ref f21) = true)
    (a22 : PySem.W.nsIn K mainGlobals "_law_some" = some (some (.ref f22)))
    (l22 : K.lookup f22 = some ⟨oc22, od22, .func (PySem.W.fnOf "_law_some" "_law_some" (defArgs sLSome) (defBody sLSome) (defScope sLSome) .none kV22 dc22 pm22 an22 cd22 ct22), sl22⟩)
    (c22 : PySem.W.codeIn K cd22 "_law_some" = true)
    (k22 : PySem.W.keepIn K (.ref f22) = true)
    (a23 : PySem.W.nsIn K mainGlobals "_law_names" = some (some (.ref f23)))
    (l23 : K.lookup f23 = some ⟨oc23, od23, .func (PySem.W.fnOf "_law_names" "_law_names" (defArgs sLNames) (defBody sLNames) (defScope sLNames) .none kV23 dc23 pm23 an23 cd23 ct23), sl23⟩)
    (c23 : PySem.W.codeIn K cd23 "_law_names" = true)
    (k23 : PySem.W.keepIn K (.ref f23) = true)
    (a24 : PySem.W.nsIn K mainGlobals "_law_entry" = some (some (.ref f24)))
    (l24 : K.lookup f24 = some ⟨oc24, od24, .func (PySem.W.fnOf "_law_entry" "_law_entry" (defArgs sLEntry) (defBody sLEntry) (defScope sLEntry) .none kV24 dc24 pm24 an24 cd24 ct24), sl24⟩)
    (c24 : PySem.W.codeIn K cd24 "_law_entry" = true)
    (k24 : PySem.W.keepIn K (.ref f24) = true)
    (a25 : PySem.W.nsIn K mainGlobals "_law_entries" = some (some (.ref f25)))
    (l25 : K.lookup f25 = some ⟨oc25, od25, .func (PySem.W.fnOf "_law_entries" "_law_entries" (defArgs sLEntries) (defBody sLEntries) (defScope sLEntries) .none kV25 dc25 pm25 an25 cd25 ct25), sl25⟩)
    (c25 : PySem.W.codeIn K cd25 "_law_entries" = true)
    (k25 : PySem.W.keepIn K (.ref f25) = true)
    (a26 : PySem.W.nsIn K mainGlobals "_law_free" = some (some (.ref f26)))
    (l26 : K.lookup f26 = some ⟨oc26, od26, .func (PySem.W.fnOf "_law_free" "_law_free" (defArgs sLFree) (defBody sLFree) (defScope sLFree) .none kV26 dc26 pm26 an26 cd26 ct26), sl26⟩)
    (c26 : PySem.W.codeIn K cd26 "_law_free" = true)
    (k26 : PySem.W.keepIn K (.ref f26) = true)
    (a27 : PySem.W.nsIn K mainGlobals "_law_lets" = some (some (.ref f27)))
    (l27 : K.lookup f27 = some ⟨oc27, od27, .func (PySem.W.fnOf "_law_lets" "_law_lets" (defArgs sLLets) (defBody sLLets) (defScope sLLets) .none kV27 dc27 pm27 an27 cd27 ct27), sl27⟩)
    (c27 : PySem.W.codeIn K cd27 "_law_lets" = true)
    (k27 : PySem.W.keepIn K (.ref f27) = true)
    (a28 : PySem.W.nsIn K mainGlobals "_law_fills" = some (some (.ref f28)))
    (l28 : K.lookup f28 = some ⟨oc28, od28, .func (PySem.W.fnOf "_law_fills" "_law_fills" (defArgs sLFills) (defBody sLFills) (defScope sLFills) .none kV28 dc28 pm28 an28 cd28 ct28), sl28⟩)
    (c28 : PySem.W.codeIn K cd28 "_law_fills" = true)
    (k28 : PySem.W.keepIn K (.ref f28) = true)
    (a29 : PySem.W.nsIn K mainGlobals "_law_put_in" = some (some (.ref f29)))
    (l29 : K.lookup f29 = some ⟨oc29, od29, .func (PySem.W.fnOf "_law_put_in" "_law_put_in" (defArgs sLPutIn) (defBody sLPutIn) (defScope sLPutIn) .none kV29 dc29 pm29 an29 cd29 ct29), sl29⟩)
    (c29 : PySem.W.codeIn K cd29 "_law_put_in" = true)
    (k29 : PySem.W.keepIn K (.ref f29) = true)
    (a30 : PySem.W.nsIn K mainGlobals "_law_filling" = some (some (.ref f30)))
    (l30 : K.lookup f30 = some ⟨oc30, od30, .func (PySem.W.fnOf "_law_filling" "_law_filling" (defArgs sLFilling) (defBody sLFilling) (defScope sLFilling) .none kV30 dc30 pm30 an30 cd30 ct30), sl30⟩)
    (c30 : PySem.W.codeIn K cd30 "_law_filling" = true)
    (k30 : PySem.W.keepIn K (.ref f30) = true)
    (a31 : PySem.W.nsIn K mainGlobals "_law_entry_made" = some (some (.ref f31)))
    (l31 : K.lookup f31 = some ⟨oc31, od31, .func (PySem.W.fnOf "_law_entry_made" "_law_entry_made" (defArgs sLEntryMade) (defBody sLEntryMade) (defScope sLEntryMade) .none kV31 dc31 pm31 an31 cd31 ct31), sl31⟩)
    (c31 : PySem.W.codeIn K cd31 "_law_entry_made" = true)
    (k31 : PySem.W.keepIn K (.ref f31) = true)
    (a32 : PySem.W.nsIn K mainGlobals "_law_custom" = some (some (.ref f32)))
    (l32 : K.lookup f32 = some ⟨oc32, od32, .func (PySem.W.fnOf "_law_custom" "_law_custom" (defArgs sLCustom) (defBody sLCustom) (defScope sLCustom) .none kV32 dc32 pm32 an32 cd32 ct32), sl32⟩)
    (c32 : PySem.W.codeIn K cd32 "_law_custom" = true)
    (k32 : PySem.W.keepIn K (.ref f32) = true)
    (a33 : PySem.W.nsIn K mainGlobals "_law_bent" = some (some (.ref f33)))
    (l33 : K.lookup f33 = some ⟨oc33, od33, .func (PySem.W.fnOf "_law_bent" "_law_bent" (defArgs sLBent) (defBody sLBent) (defScope sLBent) .none kV33 dc33 pm33 an33 cd33 ct33), sl33⟩)
    (c33 : PySem.W.codeIn K cd33 "_law_bent" = true)
    (k33 : PySem.W.keepIn K (.ref f33) = true)
    (a34 : PySem.W.nsIn K mainGlobals "_law_looser" = some (some (.ref f34)))
    (l34 : K.lookup f34 = some ⟨oc34, od34, .func (PySem.W.fnOf "_law_looser" "_law_looser" (defArgs sLLooser) (defBody sLLooser) (defScope sLLooser) .none kV34 dc34 pm34 an34 cd34 ct34), sl34⟩)
    (c34 : PySem.W.codeIn K cd34 "_law_looser" = true)
    (k34 : PySem.W.keepIn K (.ref f34) = true)
    (a35 : PySem.W.nsIn K mainGlobals "_law_probes" = some (some (.ref f35)))
    (l35 : K.lookup f35 = some ⟨oc35, od35, .func (PySem.W.fnOf "_law_probes" "_law_probes" (defArgs sLProbes) (defBody sLProbes) (defScope sLProbes) .none kV35 dc35 pm35 an35 cd35 ct35), sl35⟩)
    (c35 : PySem.W.codeIn K cd35 "_law_probes" = true)
    (k35 : PySem.W.keepIn K (.ref f35) = true)
    (a36 : PySem.W.nsIn K mainGlobals "_law_within" = some (some (.ref f36)))
    (l36 : K.lookup f36 = some ⟨oc36, od36, .func (PySem.W.fnOf "_law_within" "_law_within" (defArgs sLWithin) (defBody sLWithin) (defScope sLWithin) .none kV36 dc36 pm36 an36 cd36 ct36), sl36⟩)
    (c36 : PySem.W.codeIn K cd36 "_law_within" = true)
    (k36 : PySem.W.keepIn K (.ref f36) = true)
    (a37 : PySem.W.nsIn K mainGlobals "_law_abstract_within" = some (some (.ref f37)))
    (l37 : K.lookup f37 = some ⟨oc37, od37, .func (PySem.W.fnOf "_law_abstract_within" "_law_abstract_within" (defArgs sLAbstractWithin) (defBody sLAbstractWithin) (defScope sLAbstractWithin) .none kV37 dc37 pm37 an37 cd37 ct37), sl37⟩)
    (c37 : PySem.W.codeIn K cd37 "_law_abstract_within" = true)
    (k37 : PySem.W.keepIn K (.ref f37) = true)
    (a38 : PySem.W.nsIn K mainGlobals "_law_years_right" = some (some (.ref f38)))
    (l38 : K.lookup f38 = some ⟨oc38, od38, .func (PySem.W.fnOf "_law_years_right" "_law_years_right" (defArgs sLYearsRight) (defBody sLYearsRight) (defScope sLYearsRight) .none kV38 dc38 pm38 an38 cd38 ct38), sl38⟩)
    (c38 : PySem.W.codeIn K cd38 "_law_years_right" = true)
    (k38 : PySem.W.keepIn K (.ref f38) = true)
    (a39 : PySem.W.nsIn K mainGlobals "_law_fills_right" = some (some (.ref f39)))
    (l39 : K.lookup f39 = some ⟨oc39, od39, .func (PySem.W.fnOf "_law_fills_right" "_law_fills_right" (defArgs sLFillsRight) (defBody sLFillsRight) (defScope sLFillsRight) .none kV39 dc39 pm39 an39 cd39 ct39), sl39⟩)
    (c39 : PySem.W.codeIn K cd39 "_law_fills_right" = true)
    (k39 : PySem.W.keepIn K (.ref f39) = true)
    (a40 : PySem.W.nsIn K mainGlobals "_law_refuses_kinds" = some (some (.ref f40)))
    (l40 : K.lookup f40 = some ⟨oc40, od40, .func (PySem.W.fnOf "_law_refuses_kinds" "_law_refuses_kinds" (defArgs sLRefusesKinds) (defBody sLRefusesKinds) (defScope sLRefusesKinds) .none kV40 dc40 pm40 an40 cd40 ct40), sl40⟩)
    (c40 : PySem.W.codeIn K cd40 "_law_refuses_kinds" = true)
    (k40 : PySem.W.keepIn K (.ref f40) = true)
    (a41 : PySem.W.nsIn K mainGlobals "law" = some (some (.ref f41)))
    (l41 : K.lookup f41 = some ⟨oc41, od41, .func (PySem.W.fnOf "law" "law" (defArgs sLaw) (defBody sLaw) (defScope sLaw) .none kV41 dc41 pm41 an41 cd41 ct41), sl41⟩)
    (c41 : PySem.W.codeIn K cd41 "law" = true)
    (k41 : PySem.W.keepIn K (.ref f41) = true)
    (mC : PySem.W.nsIn K mainGlobals "History" = some (some (.ref C)))
    (mCK : PySem.W.nsIn K mainGlobals "Kinds" = some (some (.ref CK)))
    (mCA : PySem.W.nsIn K mainGlobals "Abstract" = some (some (.ref CA)))
    (mCB : PySem.W.nsIn K mainGlobals "BadHistory" = some (some (.ref CB)))
    (mCKB : PySem.W.nsIn K mainGlobals "BadKinds" = some (some (.ref CKB)))
    (mCO : PySem.W.nsIn K mainGlobals "OtherKinds" = some (some (.ref CO)))
    (mCE : PySem.W.nsIn K mainGlobals "Entry" = some (some (.ref CE)))
    (mCk : PySem.W.nsIn K mainGlobals "Known" = some (some (.ref Ck)))
    (mCh : PySem.W.nsIn K mainGlobals "Holding" = some (some (.ref Ch)))
    (mCu : PySem.W.nsIn K mainGlobals "Unknown" = some (some (.ref Cu)))
    (mCw : PySem.W.nsIn K mainGlobals "Without" = some (some (.ref Cw)))
    (mCn : PySem.W.nsIn K mainGlobals "Noted" = some (some (.ref Cn)))
    (M0 : PySem.W.findIn K (.ref CKB) "__init__" = some (some (.ref g0)))
    (L0 : K.lookup g0 = some ⟨pc0, pd0, .func (PySem.W.fnOf "__init__" "BadKinds.__init__" (defArgs sBadKinds_init) (defBody sBadKinds_init) (defScope sBadKinds_init) .none lV0 ec0 qm0 bn0 dd0 dt0), tl0⟩)
    (D0 : PySem.W.codeIn K dd0 "BadKinds.__init__" = true)
    (N0 : PySem.W.keepIn K (.ref g0) = true)
    (T0 : PySem.W.typeIn K (.ref g0) = some (.type "function"))
    (M1 : PySem.W.findIn K (.ref CB) "__init__" = some (some (.ref g1)))
    (L1 : K.lookup g1 = some ⟨pc1, pd1, .func (PySem.W.fnOf "__init__" "BadHistory.__init__" (defArgs sBadHistory_init) (defBody sBadHistory_init) (defScope sBadHistory_init) .none lV1 ec1 qm1 bn1 dd1 dt1), tl1⟩)
    (D1 : PySem.W.codeIn K dd1 "BadHistory.__init__" = true)
    (N1 : PySem.W.keepIn K (.ref g1) = true)
    (T1 : PySem.W.typeIn K (.ref g1) = some (.type "function"))
    (M2 : PySem.W.findIn K (.ref CK) "__init__" = some (some (.ref g2)))
    (L2 : K.lookup g2 = some ⟨pc2, pd2, .func (PySem.W.fnOf "__init__" "Kinds.__init__" (defArgs sKinds_init) (defBody sKinds_init) (defScope sKinds_init) .none lV2 ec2 qm2 bn2 dd2 dt2), tl2⟩)
    (D2 : PySem.W.codeIn K dd2 "Kinds.__init__" = true)
    (N2 : PySem.W.keepIn K (.ref g2) = true)
    (T2 : PySem.W.typeIn K (.ref g2) = some (.type "function"))
    (M3 : PySem.W.findIn K (.ref CK) "__eq__" = some (some (.ref g3)))
    (L3 : K.lookup g3 = some ⟨pc3, pd3, .func (PySem.W.fnOf "__eq__" "Kinds.__eq__" (defArgs sKinds_eq) (defBody sKinds_eq) (defScope sKinds_eq) .none lV3 ec3 qm3 bn3 dd3 dt3), tl3⟩)
    (D3 : PySem.W.codeIn K dd3 "Kinds.__eq__" = true)
    (N3 : PySem.W.keepIn K (.ref g3) = true)
    (T3 : PySem.W.typeIn K (.ref g3) = some (.type "function"))
    (M4 : PySem.W.findIn K (.ref CK) "__contains__" = some (some (.ref g4)))
    (L4 : K.lookup g4 = some ⟨pc4, pd4, .func (PySem.W.fnOf "__contains__" "Kinds.__contains__" (defArgs sKinds_contains) (defBody sKinds_contains) (defScope sKinds_contains) .none lV4 ec4 qm4 bn4 dd4 dt4), tl4⟩)
    (D4 : PySem.W.codeIn K dd4 "Kinds.__contains__" = true)
    (N4 : PySem.W.keepIn K (.ref g4) = true)
    (T4 : PySem.W.typeIn K (.ref g4) = some (.type "function"))
    (M5 : PySem.W.findIn K (.ref CK) "fault" = some (some (.ref g5)))
    (L5 : K.lookup g5 = some ⟨pc5, pd5, .func (PySem.W.fnOf "fault" "Kinds.fault" (defArgs sKinds_fault) (defBody sKinds_fault) (defScope sKinds_fault) .none lV5 ec5 qm5 bn5 dd5 dt5), tl5⟩)
    (D5 : PySem.W.codeIn K dd5 "Kinds.fault" = true)
    (N5 : PySem.W.keepIn K (.ref g5) = true)
    (T5 : PySem.W.typeIn K (.ref g5) = some (.type "function"))
    (M6 : PySem.W.findIn K (.ref C) "__len__" = some (some (.ref g6)))
    (L6 : K.lookup g6 = some ⟨pc6, pd6, .func (PySem.W.fnOf "__len__" "History.__len__" (defArgs sHistory_len) (defBody sHistory_len) (defScope sHistory_len) .none lV6 ec6 qm6 bn6 dd6 dt6), tl6⟩)
    (D6 : PySem.W.codeIn K dd6 "History.__len__" = true)
    (N6 : PySem.W.keepIn K (.ref g6) = true)
    (T6 : PySem.W.typeIn K (.ref g6) = some (.type "function"))
    (M7 : PySem.W.findIn K (.ref Ck) "__init__" = some (some (.ref g7)))
    (L7 : K.lookup g7 = some ⟨pc7, pd7, .func (PySem.W.fnOf "__init__" "Known.__init__" (defArgs sKnown_init) (defBody sKnown_init) (defScope sKnown_init) .none lV7 ec7 qm7 bn7 dd7 dt7), tl7⟩)
    (D7 : PySem.W.codeIn K dd7 "Known.__init__" = true)
    (N7 : PySem.W.keepIn K (.ref g7) = true)
    (T7 : PySem.W.typeIn K (.ref g7) = some (.type "function"))
    (M8 : PySem.W.findIn K (.ref Ch) "__init__" = some (some (.ref g8)))
    (L8 : K.lookup g8 = some ⟨pc8, pd8, .func (PySem.W.fnOf "__init__" "Holding.__init__" (defArgs sHolding_init) (defBody sHolding_init) (defScope sHolding_init) .none lV8 ec8 qm8 bn8 dd8 dt8), tl8⟩)
    (D8 : PySem.W.codeIn K dd8 "Holding.__init__" = true)
    (N8 : PySem.W.keepIn K (.ref g8) = true)
    (T8 : PySem.W.typeIn K (.ref g8) = some (.type "function"))
    (M9 : PySem.W.findIn K (.ref Cu) "__init__" = some (some (.ref g9)))
    (L9 : K.lookup g9 = some ⟨pc9, pd9, .func (PySem.W.fnOf "__init__" "Unknown.__init__" (defArgs sUnknown_init) (defBody sUnknown_init) (defScope sUnknown_init) .none lV9 ec9 qm9 bn9 dd9 dt9), tl9⟩)
    (D9 : PySem.W.codeIn K dd9 "Unknown.__init__" = true)
    (N9 : PySem.W.keepIn K (.ref g9) = true)
    (T9 : PySem.W.typeIn K (.ref g9) = some (.type "function"))
    (M10 : PySem.W.findIn K (.ref Cw) "__init__" = some (some (.ref g10)))
    (L10 : K.lookup g10 = some ⟨pc10, pd10, .func (PySem.W.fnOf "__init__" "Without.__init__" (defArgs sWithout_init) (defBody sWithout_init) (defScope sWithout_init) .none lV10 ec10 qm10 bn10 dd10 dt10), tl10⟩)
    (D10 : PySem.W.codeIn K dd10 "Without.__init__" = true)
    (N10 : PySem.W.keepIn K (.ref g10) = true)
    (T10 : PySem.W.typeIn K (.ref g10) = some (.type "function"))
    (M11 : PySem.W.findIn K (.ref Cn) "__init__" = some (some (.ref g11)))
    (L11 : K.lookup g11 = some ⟨pc11, pd11, .func (PySem.W.fnOf "__init__" "Noted.__init__" (defArgs sNoted_init) (defBody sNoted_init) (defScope sNoted_init) .none lV11 ec11 qm11 bn11 dd11 dt11), tl11⟩)
    (D11 : PySem.W.codeIn K dd11 "Noted.__init__" = true)
    (N11 : PySem.W.keepIn K (.ref g11) = true)
    (T11 : PySem.W.typeIn K (.ref g11) = some (.type "function"))
    (M12 : PySem.W.findIn K (.ref Ck) "free" = some (some (.ref g12)))
    (L12 : K.lookup g12 = some ⟨pc12, pd12, .func (PySem.W.fnOf "free" "Known.free" (defArgs sKnown_free) (defBody sKnown_free) (defScope sKnown_free) .none lV12 ec12 qm12 bn12 dd12 dt12), tl12⟩)
    (D12 : PySem.W.codeIn K dd12 "Known.free" = true)
    (N12 : PySem.W.keepIn K (.ref g12) = true)
    (T12 : PySem.W.typeIn K (.ref g12) = some (.type "function"))
    (M13 : PySem.W.findIn K (.ref Ch) "free" = some (some (.ref g13)))
    (L13 : K.lookup g13 = some ⟨pc13, pd13, .func (PySem.W.fnOf "free" "Holding.free" (defArgs sHolding_free) (defBody sHolding_free) (defScope sHolding_free) .none lV13 ec13 qm13 bn13 dd13 dt13), tl13⟩)
    (D13 : PySem.W.codeIn K dd13 "Holding.free" = true)
    (N13 : PySem.W.keepIn K (.ref g13) = true)
    (T13 : PySem.W.typeIn K (.ref g13) = some (.type "function"))
    (M14 : PySem.W.findIn K (.ref Cu) "free" = some (some (.ref g14)))
    (L14 : K.lookup g14 = some ⟨pc14, pd14, .func (PySem.W.fnOf "free" "Unknown.free" (defArgs sUnknown_free) (defBody sUnknown_free) (defScope sUnknown_free) .none lV14 ec14 qm14 bn14 dd14 dt14), tl14⟩)
    (D14 : PySem.W.codeIn K dd14 "Unknown.free" = true)
    (N14 : PySem.W.keepIn K (.ref g14) = true)
    (T14 : PySem.W.typeIn K (.ref g14) = some (.type "function"))
    (M15 : PySem.W.findIn K (.ref Cw) "free" = some (some (.ref g15)))
    (L15 : K.lookup g15 = some ⟨pc15, pd15, .func (PySem.W.fnOf "free" "Without.free" (defArgs sWithout_free) (defBody sWithout_free) (defScope sWithout_free) .none lV15 ec15 qm15 bn15 dd15 dt15), tl15⟩)
    (D15 : PySem.W.codeIn K dd15 "Without.free" = true)
    (N15 : PySem.W.keepIn K (.ref g15) = true)
    (T15 : PySem.W.typeIn K (.ref g15) = some (.type "function"))
    (M16 : PySem.W.findIn K (.ref Cn) "free" = some (some (.ref g16)))
    (L16 : K.lookup g16 = some ⟨pc16, pd16, .func (PySem.W.fnOf "free" "Noted.free" (defArgs sNoted_free) (defBody sNoted_free) (defScope sNoted_free) .none lV16 ec16 qm16 bn16 dd16 dt16), tl16⟩)
    (D16 : PySem.W.codeIn K dd16 "Noted.free" = true)
    (N16 : PySem.W.keepIn K (.ref g16) = true)
    (T16 : PySem.W.typeIn K (.ref g16) = some (.type "function"))
    (M17 : PySem.W.findIn K (.ref Ck) "lets" = some (some (.ref g17)))
    (L17 : K.lookup g17 = some ⟨pc17, pd17, .func (PySem.W.fnOf "lets" "Entry.lets" (defArgs sEntry_lets) (defBody sEntry_lets) (defScope sEntry_lets) .none lV17 ec17 qm17 bn17 dd17 dt17), tl17⟩)
    (D17 : PySem.W.codeIn K dd17 "Entry.lets" = true)
    (N17 : PySem.W.keepIn K (.ref g17) = true)
    (T17 : PySem.W.typeIn K (.ref g17) = some (.type "function"))
    (M18 : PySem.W.findIn K (.ref CA) "__len__" = some (some (.ref g18)))
    (L18 : K.lookup g18 = some ⟨pc18, pd18, .func (PySem.W.fnOf "__len__" "Abstract.__len__" (defArgs sAbstract_len) (defBody sAbstract_len) (defScope sAbstract_len) .none lV18 ec18 qm18 bn18 dd18 dt18), tl18⟩)
    (D18 : PySem.W.codeIn K dd18 "Abstract.__len__" = true)
    (N18 : PySem.W.keepIn K (.ref g18) = true)
    (T18 : PySem.W.typeIn K (.ref g18) = some (.type "function"))
    (M19 : PySem.W.findIn K (.ref CA) "fills" = some (some (.ref g19)))
    (L19 : K.lookup g19 = some ⟨pc19, pd19, .func (PySem.W.fnOf "fills" "Abstract.fills" (defArgs sAbstract_fills) (defBody sAbstract_fills) (defScope sAbstract_fills) .none lV19 ec19 qm19 bn19 dd19 dt19), tl19⟩)
    (D19 : PySem.W.codeIn K dd19 "Abstract.fills" = true)
    (N19 : PySem.W.keepIn K (.ref g19) = true)
    (T19 : PySem.W.typeIn K (.ref g19) = some (.type "function"))
    (M20 : PySem.W.findIn K (.ref CA) "is_within" = some (some (.ref g20)))
    (L20 : K.lookup g20 = some ⟨pc20, pd20, .func (PySem.W.fnOf "is_within" "Abstract.is_within" (defArgs sAbstract_is_within) (defBody sAbstract_is_within) (defScope sAbstract_is_within) .none lV20 ec20 qm20 bn20 dd20 dt20), tl20⟩)
    (D20 : PySem.W.codeIn K dd20 "Abstract.is_within" = true)
    (N20 : PySem.W.keepIn K (.ref g20) = true)
    (T20 : PySem.W.typeIn K (.ref g20) = some (.type "function"))
    (MlCh : PySem.W.findIn K (.ref Ch) "lets" = some (some (.ref g17)))
    (MlCu : PySem.W.findIn K (.ref Cu) "lets" = some (some (.ref g17)))
    (MlCw : PySem.W.findIn K (.ref Cw) "lets" = some (some (.ref g17)))
    (MlCn : PySem.W.findIn K (.ref Cn) "lets" = some (some (.ref g17)))
    (M21 : PySem.W.findIn K (.ref C) "__init__" = some (some (.ref g21)))
    (L21 : K.lookup g21 = some ⟨pc21, pd21, .func (PySem.W.fnOf "__init__" "History.__init__" (defArgs sHistory_init) (defBody sHistory_init) (defScope sHistory_init) (.ref pT) lV21 ec21 qm21 bn21 dd21 dt21), tl21⟩)
    (D21 : PySem.W.codeIn K dd21 "History.__init__" = true)
    (N21 : PySem.W.keepIn K (.ref g21) = true)
    (T21 : PySem.W.typeIn K (.ref g21) = some (.type "function"))
    (H1 : K.lookup pT = some ⟨toc, tod, .seq #[.ref ed] tn, tsl⟩)
    (H2 : K.lookup ed = some ⟨.type "tuple", eod, .seq #[] en, esl⟩)
    (M22 : PySem.W.findIn K (.ref CA) "__init__" = some (some (.ref g22)))
    (L22 : K.lookup g22 = some ⟨pc22, pd22, .func (PySem.W.fnOf "__init__" "Abstract.__init__" (defArgs sAbstract_init) (defBody sAbstract_init) (defScope sAbstract_init) .none (.ref pD) ec22 qm22 bn22 dd22 dt22), tl22⟩)
    (D22 : PySem.W.codeIn K dd22 "Abstract.__init__" = true)
    (N22 : PySem.W.keepIn K (.ref g22) = true)
    (T22 : PySem.W.typeIn K (.ref g22) = some (.type "function"))
    (H3 : PySem.W.nsIn K pD "whole" = some (some (.bool false)))
    (u1C : PySem.W.plainGet K C Str.empty = true)
    (u2C : PySem.W.hasDictIn K C = true)
    (u3C : PySem.W.plainOver K C = true)
    (u4C : PySem.W.findIn K (.ref C) "__setattr__" = some (some (.builtin "object.__setattr__")))
    (u5C_kinds : PySem.W.findIn K (.ref C) "kinds" = some none)
    (u5C_years : PySem.W.findIn K (.ref C) "years" = some none)
    (u6C : PySem.W.findIn K (.ref C) "__class__" = some (some (.builtin "object.__class__")))
    (u7C : PySem.W.mroIn K C (.type "object") = some true)
    (u8C : PySem.W.makesIn K C = true)
    (u9C : PySem.W.keepIn K (.ref C) = true)
    (u1CK : PySem.W.plainGet K CK Str.empty = true)
    (u2CK : PySem.W.hasDictIn K CK = true)
    (u3CK : PySem.W.plainOver K CK = true)
    (u4CK : PySem.W.findIn K (.ref CK) "__setattr__" = some (some (.builtin "object.__setattr__")))
    (u5CK_rows : PySem.W.findIn K (.ref CK) "rows" = some none)
    (u5CK_names : PySem.W.findIn K (.ref CK) "names" = some none)
    (u5CK__arities : PySem.W.findIn K (.ref CK) "_arities" = some none)
    (u6CK : PySem.W.findIn K (.ref CK) "__class__" = some (some (.builtin "object.__class__")))
    (u7CK : PySem.W.mroIn K CK (.type "object") = some true)
    (u8CK : PySem.W.makesIn K CK = true)
    (u9CK : PySem.W.keepIn K (.ref CK) = true)
    (u1CA : PySem.W.plainGet K CA Str.empty = true)
    (u2CA : PySem.W.hasDictIn K CA = true)
    (u3CA : PySem.W.plainOver K CA = true)
    (u4CA : PySem.W.findIn K (.ref CA) "__setattr__" = some (some (.builtin "object.__setattr__")))
    (u5CA_kinds : PySem.W.findIn K (.ref CA) "kinds" = some none)
    (u5CA_years : PySem.W.findIn K (.ref CA) "years" = some none)
    (u5CA_whole : PySem.W.findIn K (.ref CA) "whole" = some none)
    (u6CA : PySem.W.findIn K (.ref CA) "__class__" = some (some (.builtin "object.__class__")))
    (u7CA : PySem.W.mroIn K CA (.type "object") = some true)
    (u8CA : PySem.W.makesIn K CA = true)
    (u9CA : PySem.W.keepIn K (.ref CA) = true)
    (u1Ck : PySem.W.plainGet K Ck Str.empty = true)
    (u2Ck : PySem.W.hasDictIn K Ck = true)
    (u3Ck : PySem.W.plainOver K Ck = true)
    (u4Ck : PySem.W.findIn K (.ref Ck) "__setattr__" = some (some (.builtin "object.__setattr__")))
    (u5Ck_told : PySem.W.findIn K (.ref Ck) "told" = some none)
    (u5Ck_names : PySem.W.findIn K (.ref Ck) "names" = some none)
    (u6Ck : PySem.W.findIn K (.ref Ck) "__class__" = some (some (.builtin "object.__class__")))
    (u7Ck : PySem.W.mroIn K Ck (.type "object") = some true)
    (u8Ck : PySem.W.makesIn K Ck = true)
    (u9Ck : PySem.W.keepIn K (.ref Ck) = true)
    (u1Ch : PySem.W.plainGet K Ch Str.empty = true)
    (u2Ch : PySem.W.hasDictIn K Ch = true)
    (u3Ch : PySem.W.plainOver K Ch = true)
    (u4Ch : PySem.W.findIn K (.ref Ch) "__setattr__" = some (some (.builtin "object.__setattr__")))
    (u5Ch_told : PySem.W.findIn K (.ref Ch) "told" = some none)
    (u5Ch_names : PySem.W.findIn K (.ref Ch) "names" = some none)
    (u6Ch : PySem.W.findIn K (.ref Ch) "__class__" = some (some (.builtin "object.__class__")))
    (u7Ch : PySem.W.mroIn K Ch (.type "object") = some true)
    (u8Ch : PySem.W.makesIn K Ch = true)
    (u9Ch : PySem.W.keepIn K (.ref Ch) = true)
    (u1Cu : PySem.W.plainGet K Cu Str.empty = true)
    (u2Cu : PySem.W.hasDictIn K Cu = true)
    (u3Cu : PySem.W.plainOver K Cu = true)
    (u4Cu : PySem.W.findIn K (.ref Cu) "__setattr__" = some (some (.builtin "object.__setattr__")))
    (u5Cu_told : PySem.W.findIn K (.ref Cu) "told" = some none)
    (u5Cu_names : PySem.W.findIn K (.ref Cu) "names" = some none)
    (u6Cu : PySem.W.findIn K (.ref Cu) "__class__" = some (some (.builtin "object.__class__")))
    (u7Cu : PySem.W.mroIn K Cu (.type "object") = some true)
    (u8Cu : PySem.W.makesIn K Cu = true)
    (u9Cu : PySem.W.keepIn K (.ref Cu) = true)
    (u1Cw : PySem.W.plainGet K Cw Str.empty = true)
    (u2Cw : PySem.W.hasDictIn K Cw = true)
    (u3Cw : PySem.W.plainOver K Cw = true)
    (u4Cw : PySem.W.findIn K (.ref Cw) "__setattr__" = some (some (.builtin "object.__setattr__")))
    (u5Cw_told : PySem.W.findIn K (.ref Cw) "told" = some none)
    (u5Cw_names : PySem.W.findIn K (.ref Cw) "names" = some none)
    (u6Cw : PySem.W.findIn K (.ref Cw) "__class__" = some (some (.builtin "object.__class__")))
    (u7Cw : PySem.W.mroIn K Cw (.type "object") = some true)
    (u8Cw : PySem.W.makesIn K Cw = true)
    (u9Cw : PySem.W.keepIn K (.ref Cw) = true)
    (u1Cn : PySem.W.plainGet K Cn Str.empty = true)
    (u2Cn : PySem.W.hasDictIn K Cn = true)
    (u3Cn : PySem.W.plainOver K Cn = true)
    (u4Cn : PySem.W.findIn K (.ref Cn) "__setattr__" = some (some (.builtin "object.__setattr__")))
    (u5Cn_told : PySem.W.findIn K (.ref Cn) "told" = some none)
    (u5Cn_names : PySem.W.findIn K (.ref Cn) "names" = some none)
    (u6Cn : PySem.W.findIn K (.ref Cn) "__class__" = some (some (.builtin "object.__class__")))
    (u7Cn : PySem.W.mroIn K Cn (.type "object") = some true)
    (u8Cn : PySem.W.makesIn K Cn = true)
    (u9Cn : PySem.W.keepIn K (.ref Cn) = true)
    (uACK : PySem.W.findIn K (.ref CK) "__ne__" = some (some (.builtin "object.__ne__")))
    (wCK_NoneType : PySem.W.kitOne K (.type "NoneType") (.ref CK) = some false)
    (wCK_list : PySem.W.kitOne K (.type "list") (.ref CK) = some false)
    (wCK_str : PySem.W.kitOne K (.type "str") (.ref CK) = some false)
    (wCK_tuple : PySem.W.kitOne K (.type "tuple") (.ref CK) = some false)
    (wECk : PySem.W.kitOne K (.ref Ck) (.ref CE) = some true)
    (wNCk : PySem.W.kitOne K (.ref Ck) (.ref Cn) = some false)
    (wECh : PySem.W.kitOne K (.ref Ch) (.ref CE) = some true)
    (wNCh : PySem.W.kitOne K (.ref Ch) (.ref Cn) = some false)
    (wECu : PySem.W.kitOne K (.ref Cu) (.ref CE) = some true)
    (wNCu : PySem.W.kitOne K (.ref Cu) (.ref Cn) = some false)
    (wECw : PySem.W.kitOne K (.ref Cw) (.ref CE) = some true)
    (wNCw : PySem.W.kitOne K (.ref Cw) (.ref Cn) = some false)
    (wECn : PySem.W.kitOne K (.ref Cn) (.ref CE) = some true)
    (wNCn : PySem.W.kitOne K (.ref Cn) (.ref Cn) = some true)
    (q1 : PySem.W.specialIn K (.builtin "object.__class__") "__get__" = some (some (.builtin "getset_descriptor.__get__")))
    (q2 : PySem.W.takesIn K (.builtin "object.__class__") = some true)
    (nCB_year : PySem.W.findIn K (.ref CB) "year" = some none)
    (nCB_index : PySem.W.findIn K (.ref CB) "index" = some none)
    (nCB_what : PySem.W.findIn K (.ref CB) "what" = some none)
    (nCKB_index : PySem.W.findIn K (.ref CKB) "index" = some none)
    (nCKB_what : PySem.W.findIn K (.ref CKB) "what" = some none)
    (xCO : PySem.W.exmOne K (.ref CO) (.ref CO) = some true)
    (eO1 : PySem.W.excIn K CO bmV "ValueError.__new__" = true)
    (eO2 : PySem.W.keepIn K (.ref CO) = true)
    (eO3 : PySem.W.subIn K (.ref CO) (.type "BaseException") = some true)
    (eO4 : PySem.W.typeIn K (.ref CO) = some (.type "type"))
    (y2 : PySem.W.nsIn K mainGlobals "LONGEST_LABEL" = some (some (.int 6 t2)))
    (y3 : PySem.W.nsIn K mainGlobals "YEAR" = some (some (.str "year" t3)))
    (y4 : PySem.W.nsIn K mainGlobals "MOST_ARITY" = some (some (.int 2 t4)))
    (y5 : PySem.W.nsIn K mainGlobals "MOST_KINDS" = some (some (.int 6 t5)))
    (y6 : PySem.W.nsIn K mainGlobals "MOST_YEARS" = some (some (.int 1000000 t6)))
    (y7 : PySem.W.nsIn K mainGlobals "MOST_DEEDS" = some (some (.int 1000000 t7)))
    (y8 : PySem.W.nsIn K mainGlobals "MOST_ENTRIES" = some (some (.int 200 t8)))
    (y9 : PySem.W.nsIn K mainGlobals "MOST_NAMED" = some (some (.int 8 t9)))
    (o1CB : ∃ nm q N bs bm sn sub ab col dd k0 k1 k2 k3 k5, K.lookup CB = some (excClassObj nm q CB N bs bm true sn sub ab col dd k0 k1 k2 k3 k5 "ValueError.__new__") ∧ PySem.HandSPX.refsVE bm = true)
    (o2CB : PySem.W.findIn K (.ref CB) "__setattr__" = some (some (.builtin "object.__setattr__")))
    (o3CB : PySem.W.subIn K (.ref CB) (.type "BaseException") = some true)
    (o4CB : PySem.W.typeIn K (.ref CB) = some (.type "type"))
    (o5CB : PySem.W.keepIn K (.ref CB) = true)
    (o6CB : PySem.W.findIn K (.ref CB) "__getattribute__" = some (some (.builtin "BaseException.__getattribute__")))
    (o7CB : PySem.W.findIn K (.ref CB) "__getattr__" = some none)
    (o8CB : PySem.W.hasDictIn K CB = true)
    (o1CKB : ∃ nm q N bs bm sn sub ab col dd k0 k1 k2 k3 k5, K.lookup CKB = some (excClassObj nm q CKB N bs bm true sn sub ab col dd k0 k1 k2 k3 k5 "ValueError.__new__") ∧ PySem.HandSPX.refsVE bm = true)
    (o2CKB : PySem.W.findIn K (.ref CKB) "__setattr__" = some (some (.builtin "object.__setattr__")))
    (o3CKB : PySem.W.subIn K (.ref CKB) (.type "BaseException") = some true)
    (o4CKB : PySem.W.typeIn K (.ref CKB) = some (.type "type"))
    (o5CKB : PySem.W.keepIn K (.ref CKB) = true)
    (o6CKB : PySem.W.findIn K (.ref CKB) "__getattribute__" = some (some (.builtin "BaseException.__getattribute__")))
    (o7CKB : PySem.W.findIn K (.ref CKB) "__getattr__" = some none)
    (o8CKB : PySem.W.hasDictIn K CKB = true)
    (z_int : PySem.W.nsIn K mainGlobals "int" = some none)
    (z_abs : PySem.W.nsIn K mainGlobals "abs" = some none)
    (z_len : PySem.W.nsIn K mainGlobals "len" = some none)
    (z_enumerate : PySem.W.nsIn K mainGlobals "enumerate" = some none)
    (z_range : PySem.W.nsIn K mainGlobals "range" = some none)
    (z_isinstance : PySem.W.nsIn K mainGlobals "isinstance" = some none)
    (z_str : PySem.W.nsIn K mainGlobals "str" = some none)
    (z_bool : PySem.W.nsIn K mainGlobals "bool" = some none)
    (z_list : PySem.W.nsIn K mainGlobals "list" = some none)
    (z_tuple : PySem.W.nsIn K mainGlobals "tuple" = some none)
    (z_sum : PySem.W.nsIn K mainGlobals "sum" = some none)
    (z_min : PySem.W.nsIn K mainGlobals "min" = some none)
    (z_zip : PySem.W.nsIn K mainGlobals "zip" = some none)
    (z_all : PySem.W.nsIn K mainGlobals "all" = some none) :
    ∀ (base : Heap) (s : Shared) (H : Hp) (a : Addr) (ns : List Int), K.In base → base.Ns mainGlobals mg → Env0 l.prog w K mg base callerA [] s H → SqL K H a (ns.map V.int) → ns.length ≤ 63 →
      codeAny (model l.prog w) callerA (.call (.ref fa) ⟨[.ref a], []⟩) (_root_.L2.CR CX0 [] l.prog w H s QT EF) s := by
  have e := hfa.symm.trans (PySem.W.mg_of X G a41)
  cases e
  intro base s H a ns _ _ e0 hS hn
  have T : Bl mg := ⟨(PySem.W.mg_none_of X G z_int), (PySem.W.mg_none_of X G z_abs), (PySem.W.mg_none_of X G z_len), (PySem.W.mg_none_of X G z_enumerate), (PySem.W.mg_none_of X G z_range)⟩
  have B : Bm mg := ⟨(PySem.W.mg_none_of X G z_isinstance), (PySem.W.mg_none_of X G z_str), (PySem.W.mg_none_of X G z_bool), (PySem.W.mg_none_of X G z_list), (PySem.W.mg_none_of X G z_tuple), ⟨_, PySem.W.mg_of X G y2⟩⟩
  have Mm : Km mg := ⟨⟨_, PySem.W.mg_of X G y3⟩, ⟨_, PySem.W.mg_of X G y4⟩, ⟨_, PySem.W.mg_of X G y5⟩⟩
  have Mh : Hm mg := ⟨⟨_, PySem.W.mg_of X G y6⟩, ⟨_, PySem.W.mg_of X G y7⟩, (PySem.W.mg_none_of X G z_sum)⟩
  have Am' : Am mg := ⟨(PySem.W.mg_none_of X G z_all)⟩
  have Zm' : Zm mg := ⟨(PySem.W.mg_none_of X G z_zip), (PySem.W.mg_none_of X G z_len), (PySem.W.mg_none_of X G z_all)⟩
  have KX : KC K CK := ⟨⟨u1CK, u2CK, u3CK, u4CK⟩, u5CK_rows, u5CK_names, u5CK__arities, u6CK, q1, q2, u7CK, wCK_tuple⟩
  have HX : HC K C := ⟨⟨u1C, u2C, u3C, u4C⟩, u5C_kinds, u5C_years, u6C, q1, q2, u7C⟩
  have AX : AC K CA := ⟨⟨u1CA, u2CA, u3CA, u4CA⟩, u5CA_kinds, u5CA_years, u5CA_whole⟩
  have NK : NotOf K CK := ⟨wCK_NoneType, wCK_list, wCK_str, wCK_tuple⟩
  have EX : ∀ k, EC K ((csOf Ck Cw Cu Cn Ch) k) := fun k => by cases k with
    | known => exact ⟨⟨u1Ck, u2Ck, u3Ck, u4Ck⟩, u5Ck_told, u5Ck_names⟩
    | without => exact ⟨⟨u1Cw, u2Cw, u3Cw, u4Cw⟩, u5Cw_told, u5Cw_names⟩
    | unknown => exact ⟨⟨u1Cu, u2Cu, u3Cu, u4Cu⟩, u5Cu_told, u5Cu_names⟩
    | noted => exact ⟨⟨u1Cn, u2Cn, u3Cn, u4Cn⟩, u5Cn_told, u5Cn_names⟩
    | holding => exact ⟨⟨u1Ch, u2Ch, u3Ch, u4Ch⟩, u5Ch_told, u5Ch_names⟩
  have ca : ∀ k, PySem.W.findIn K (.ref ((csOf Ck Cw Cu Cn Ch) k)) "__class__" = some (some (.builtin "object.__class__")) := fun k => by cases k with
    | known => exact u6Ck
    | without => exact u6Cw
    | unknown => exact u6Cu
    | noted => exact u6Cn
    | holding => exact u6Ch
  have cm : ∀ k, PySem.W.mroIn K ((csOf Ck Cw Cu Cn Ch) k) (.type "object") = some true := fun k => by cases k with
    | known => exact u7Ck
    | without => exact u7Cw
    | unknown => exact u7Cu
    | noted => exact u7Cn
    | holding => exact u7Ch
  have kE : ∀ k, PySem.W.kitOne K (.ref ((csOf Ck Cw Cu Cn Ch) k)) (.ref CE) = some true := fun k => by cases k with
    | known => exact wECk
    | without => exact wECw
    | unknown => exact wECu
    | noted => exact wECn
    | holding => exact wECh
  have kN : ∀ k : Ew, PySem.W.kitOne K (.ref ((csOf Ck Cw Cu Cn Ch) k)) (.ref ((csOf Ck Cw Cu Cn Ch) .noted)) = some (decide (k = .noted)) := fun k => by cases k with
    | known => exact wNCk
    | without => exact wNCw
    | unknown => exact wNCu
    | noted => exact wNCn
    | holding => exact wNCh
  have ET' : ET K mg (csOf Ck Cw Cu Cn Ch) CE := ⟨ca, q1, q2, cm, kE, kN, PySem.W.mg_of X G mCE, PySem.W.mg_of X G mCn⟩
  have XCB : XfC K CB := ⟨o6CB, o7CB, o3CB, o8CB⟩
  have OCB : OexC K CB := ⟨o1CB, o2CB, o3CB, o4CB, o5CB⟩
  have XCKB : XfC K CKB := ⟨o6CKB, o7CKB, o3CKB, o8CKB⟩
  have OCKB : OexC K CKB := ⟨o1CKB, o2CKB, o3CKB, o4CKB, o5CKB⟩
  have mix := ok_mix (P := l.prog) (w := w) (mg := mg) (base := base) (fun_mk (st := sMix) l13 c13 k13) (PySem.W.mg_of X G a13) T
  have draw := ok_draw (P := l.prog) (w := w) (mg := mg) (base := base) (fun_mk (st := sDraw) l15 c15 k15) (PySem.W.mg_of X G a15) T mix
  have hand := ok_hand (P := l.prog) (w := w) (mg := mg) (base := base) (fun_mk (st := sHand) l14 c14 k14) (PySem.W.mg_of X G a14) T
  have one := ok_one (P := l.prog) (w := w) (mg := mg) (base := base) (fun_mk (st := sOne) l16 c16 k16) (PySem.W.mg_of X G a16) T draw
  have whole := ok_whole (P := l.prog) (w := w) (mg := mg) (base := base) (fun_mk (st := sWhole) l0 c0 k0) (PySem.W.mg_of X G a0) T B
  have label := ok_label (P := l.prog) (w := w) (mg := mg) (base := base) (fun_mk (st := sLabel) l1 c1 k1) (PySem.W.mg_of X G a1) T B
  have seq := ok_seq (P := l.prog) (w := w) (mg := mg) (base := base) (fun_mk (st := sSeq) l2 c2 k2) (PySem.W.mg_of X G a2) B
  have seqK := ok_seqK (P := l.prog) (w := w) (mg := mg) (base := base) (fun_mk (st := sSeq) l2 c2 k2) (PySem.W.mg_of X G a2) B
  have rowf := ok_rowfault (P := l.prog) (w := w) (mg := mg) (base := base) (fun_mk (st := sRowFault) l7 c7 k7) (PySem.W.mg_of X G a7) T B Mm seq label whole
  have EKB : ErC l.prog w K mg base "BadKinds" ["self", "index", "what"] CKB g0 _ (spInit2 K CKB "index" "what") := ⟨OCKB, M0, T0, PySem.W.mg_of X G mCKB, (fun_mk (st := sBadKinds_init) L0 D0 N0).binds (fun _ _ _ _ _ _ us hl => match us, hl with | [_, _, _], _ => rfl), ok_BadKinds (fun_mk (st := sBadKinds_init) L0 D0 N0), XCKB⟩
  have EB0 : ErC l.prog w K mg base "BadHistory" ["self", "year", "index", "what"] CB g1 _ (spInit3 K CB "year" "index" "what") := ⟨OCB, M1, T1, PySem.W.mg_of X G mCB, (fun_mk (st := sBadHistory_init) L1 D1 N1).binds (fun _ _ _ _ _ _ us hl => match us, hl with | [_, _, _, _], _ => rfl), ok_BadHistory (fun_mk (st := sBadHistory_init) L1 D1 N1), XCB⟩
  have EB : BH l.prog w K mg base CB g1 _ := ⟨EB0, nCB_year, nCB_index, nCB_what⟩
  have OO : OwnE K mg "OtherKinds" CO "ValueError" "ValueError.__new__" "ValueError.__init__" bmV := ⟨PySem.F.excBase_ValueError, eO1, PySem.W.mg_of X G mCO, eO2, eO3, eO4⟩
  have EO : ErO K mg CO := ⟨PySem.W.mg_of X G mCO, xCO⟩
  have mH := PySem.W.mg_of X G mC
  have mK := PySem.W.mg_of X G mCK
  have MK : MkM l.prog w K mg base CK "Kinds" 3 ["self", "rows"] (spKinds K CK CKB) g2 _ := ⟨⟨u8CK, M2, (by unfold PySem.W.isFn; rw [T2]; rfl), u9CK⟩, ok_kinds (fun_mk (st := sKinds_init) L2 D2 N2) T B Mm KX seq rowf EKB nCKB_index nCKB_what, mK, (fun_mk (st := sKinds_init) L2 D2 N2).binds (ps := ["self", "rows"]) (fun _ _ _ _ _ _ us hl => match us, hl with | [_, _], _ => rfl)⟩
  have oE : OwnM l.prog w K mg base CK "__eq__" 1 ["self", "other"] (spKEq CK) g3 _ := ⟨⟨M3, (by unfold PySem.W.isFn; rw [T3]; rfl), N3⟩, ok_keq (fun_mk (st := sKinds_eq) L3 D3 N3) B KX mK, (fun_mk (st := sKinds_eq) L3 D3 N3).binds (fun _ _ _ _ _ _ us hl => match us, hl with | [_, _], _ => rfl)⟩
  have oI : OwnM l.prog w K mg base CK "__contains__" 1 ["self", "thing"] (spKIn CK) g4 _ := ⟨⟨M4, (by unfold PySem.W.isFn; rw [T4]; rfl), N4⟩, ok_kin (fun_mk (st := sKinds_contains) L4 D4 N4) B KX, (fun_mk (st := sKinds_contains) L4 D4 N4).binds (fun _ _ _ _ _ _ us hl => match us, hl with | [_, _], _ => rfl)⟩
  have oF : OwnM l.prog w K mg base CK "fault" 2 ["self", "deed"] (spFault CK) g5 _ := ⟨⟨M5, (by unfold PySem.W.isFn; rw [T5]; rfl), N5⟩, ok_fault (fun_mk (st := sKinds_fault) L5 D5 N5) T KX oI seq label, (fun_mk (st := sKinds_fault) L5 D5 N5).binds (fun _ _ _ _ _ _ us hl => match us, hl with | [_, _], _ => rfl)⟩
  have long := ok_long (P := l.prog) (w := w) (mg := mg) (base := base) (fun_mk (st := sIsTooLong) l11 c11 k11) (PySem.W.mg_of X G a11) T Mh seqK
  have yearof := ok_yearof (P := l.prog) (w := w) (mg := mg) (base := base) (fun_mk (st := sYearOf) l12 c12 k12) (PySem.W.mg_of X G a12) T B KX seqK oF EB
  have bY := (fun_mk (st := sYearOf) l12 c12 k12).binds (ps := ["kinds", "index", "year"]) (fun _ _ _ _ _ _ us hl => match us, hl with | [_, _, _], _ => rfl)
  have FI : FunD K "__init__" "History.__init__" (defArgs sHistory_init) (defBody sHistory_init) (defScope sHistory_init) [V.ref ed] [] g21 _ := ⟨⟨_, _, _, _, _, _, _, _, _, _, rfl, L21, D21, .inr ⟨by simp, pT, _, [.ref ed], _, rfl, H1, rfl, .cons rfl .nil⟩, .inl rfl⟩, N21⟩
  have MH : MkM l.prog w K mg base C "History" 4 ["self", "kinds", "years"] (spHist K C CK CB) g21 _ := ⟨⟨u8C, M21, (by unfold PySem.W.isFn; rw [T21]; rfl), u9C⟩, ok_hist (C := C) FI T B KX HX NK mK seqK long yearof (PySem.W.mg_of X G a12) k12 bY EB, mH, hist_binds3 FI⟩
  have we : Wnil K ed := ⟨_, H2, rfl, _, rfl⟩
  have rdH : Vals [V.ref ed] [Value.ref ed] := .cons rfl .nil
  have bHD := hist_binds2 FI
  have oHL : OwnM l.prog w K mg base C "__len__" 1 ["self"] (spHLen C CK) g6 _ := ⟨⟨M6, (by unfold PySem.W.isFn; rw [T6]; rfl), N6⟩, ok_hlen (fun_mk (st := sHistory_len) L6 D6 N6) T HX, (fun_mk (st := sHistory_len) L6 D6 N6).binds (fun _ _ _ _ _ _ us hl => match us, hl with | [_], _ => rfl)⟩
  have told := ok_tolddeeds (P := l.prog) (w := w) (mg := mg) (base := base) (fun_mk (st := sToldDeeds) l5 c5 k5) (PySem.W.mg_of X G a5) B Am' seqK
  have kn := ok_kindnames (P := l.prog) (w := w) (mg := mg) (base := base) (fun_mk (st := sKindNames) l4 c4 k4) (PySem.W.mg_of X G a4) T B seqK label
  have oth := ok_others (P := l.prog) (w := w) (mg := mg) (base := base) (fun_mk (st := sOthers) l6 c6 k6) (PySem.W.mg_of X G a6) B KX
  have N_Ck : EnM l.prog w K mg base ((csOf Ck Cw Cu Cn Ch) .known) "Known" 3 ["self", "deeds"] (spEnD K (csOf Ck Cw Cu Cn Ch) .known) g7 _ := ⟨⟨u8Ck, M7, (by unfold PySem.W.isFn; rw [T7]; rfl), u9Ck⟩, ok_known (Cs := (csOf Ck Cw Cu Cn Ch)) (fun_mk (st := sKnown_init) L7 D7 N7) (EX .known) told, PySem.W.mg_of X G mCk, (fun_mk (st := sKnown_init) L7 D7 N7).binds (ps := ["self", "deeds"]) (fun _ _ _ _ _ _ us hl => match us, hl with | [_, _], _ => rfl)⟩
  have N_Ch : EnM l.prog w K mg base ((csOf Ck Cw Cu Cn Ch) .holding) "Holding" 3 ["self", "deeds"] (spEnD K (csOf Ck Cw Cu Cn Ch) .holding) g8 _ := ⟨⟨u8Ch, M8, (by unfold PySem.W.isFn; rw [T8]; rfl), u9Ch⟩, ok_holding (Cs := (csOf Ck Cw Cu Cn Ch)) (fun_mk (st := sHolding_init) L8 D8 N8) (EX .holding) told, PySem.W.mg_of X G mCh, (fun_mk (st := sHolding_init) L8 D8 N8).binds (ps := ["self", "deeds"]) (fun _ _ _ _ _ _ us hl => match us, hl with | [_, _], _ => rfl)⟩
  have N_Cu : EnM l.prog w K mg base ((csOf Ck Cw Cu Cn Ch) .unknown) "Unknown" 1 ["self"] (spEnU (csOf Ck Cw Cu Cn Ch)) g9 _ := ⟨⟨u8Cu, M9, (by unfold PySem.W.isFn; rw [T9]; rfl), u9Cu⟩, ok_unknown (Cs := (csOf Ck Cw Cu Cn Ch)) (fun_mk (st := sUnknown_init) L9 D9 N9) (EX .unknown), PySem.W.mg_of X G mCu, (fun_mk (st := sUnknown_init) L9 D9 N9).binds (ps := ["self"]) (fun _ _ _ _ _ _ us hl => match us, hl with | [_], _ => rfl)⟩
  have N_Cw : EnM l.prog w K mg base ((csOf Ck Cw Cu Cn Ch) .without) "Without" 3 ["self", "names"] (spEnN (csOf Ck Cw Cu Cn Ch)) g10 _ := ⟨⟨u8Cw, M10, (by unfold PySem.W.isFn; rw [T10]; rfl), u9Cw⟩, ok_without (Cs := (csOf Ck Cw Cu Cn Ch)) (fun_mk (st := sWithout_init) L10 D10 N10) (EX .without) kn, PySem.W.mg_of X G mCw, (fun_mk (st := sWithout_init) L10 D10 N10).binds (ps := ["self", "names"]) (fun _ _ _ _ _ _ us hl => match us, hl with | [_, _], _ => rfl)⟩
  have N_Cn : EnM l.prog w K mg base ((csOf Ck Cw Cu Cn Ch) .noted) "Noted" 3 ["self", "names", "deeds"] (spEnB K (csOf Ck Cw Cu Cn Ch)) g11 _ := ⟨⟨u8Cn, M11, (by unfold PySem.W.isFn; rw [T11]; rfl), u9Cn⟩, ok_noted (Cs := (csOf Ck Cw Cu Cn Ch)) (fun_mk (st := sNoted_init) L11 D11 N11) (EX .noted) kn told, PySem.W.mg_of X G mCn, (fun_mk (st := sNoted_init) L11 D11 N11).binds (ps := ["self", "names", "deeds"]) (fun _ _ _ _ _ _ us hl => match us, hl with | [_, _, _], _ => rfl)⟩
  have FR : FrM l.prog w K mg base (csOf Ck Cw Cu Cn Ch) CK := fun k => by cases k with
    | known => exact ⟨g12, _, ⟨M12, (by unfold PySem.W.isFn; rw [T12]; rfl), N12⟩, ok_kfree (CK := CK) (Cs := (csOf Ck Cw Cu Cn Ch)) (fun_mk (st := sKnown_free) L12 D12 N12) , (fun_mk (st := sKnown_free) L12 D12 N12).binds (ps := ["self", "kinds"]) (fun _ _ _ _ _ _ us hl => match us, hl with | [_, _], _ => rfl)⟩
    | without => exact ⟨g15, _, ⟨M15, (by unfold PySem.W.isFn; rw [T15]; rfl), N15⟩, ok_wfree (Cs := (csOf Ck Cw Cu Cn Ch)) (fun_mk (st := sWithout_free) L15 D15 N15) (EX .without) oth, (fun_mk (st := sWithout_free) L15 D15 N15).binds (ps := ["self", "kinds"]) (fun _ _ _ _ _ _ us hl => match us, hl with | [_, _], _ => rfl)⟩
    | unknown => exact ⟨g14, _, ⟨M14, (by unfold PySem.W.isFn; rw [T14]; rfl), N14⟩, ok_ufree (Cs := (csOf Ck Cw Cu Cn Ch)) KX (fun_mk (st := sUnknown_free) L14 D14 N14) , (fun_mk (st := sUnknown_free) L14 D14 N14).binds (ps := ["self", "kinds"]) (fun _ _ _ _ _ _ us hl => match us, hl with | [_, _], _ => rfl)⟩
    | noted => exact ⟨g16, _, ⟨M16, (by unfold PySem.W.isFn; rw [T16]; rfl), N16⟩, ok_nfree (Cs := (csOf Ck Cw Cu Cn Ch)) (fun_mk (st := sNoted_free) L16 D16 N16) (EX .noted) oth, (fun_mk (st := sNoted_free) L16 D16 N16).binds (ps := ["self", "kinds"]) (fun _ _ _ _ _ _ us hl => match us, hl with | [_, _], _ => rfl)⟩
    | holding => exact ⟨g13, _, ⟨M13, (by unfold PySem.W.isFn; rw [T13]; rfl), N13⟩, ok_hfree (Cs := (csOf Ck Cw Cu Cn Ch)) KX (fun_mk (st := sHolding_free) L13 D13 N13) , (fun_mk (st := sHolding_free) L13 D13 N13).binds (ps := ["self", "kinds"]) (fun _ _ _ _ _ _ us hl => match us, hl with | [_, _], _ => rfl)⟩
  have LTM : ∀ k, Meth K ((csOf Ck Cw Cu Cn Ch) k) "lets" g17 := fun k => by cases k with
    | known => exact ⟨M17, (by unfold PySem.W.isFn; rw [T17]; rfl), N17⟩
    | without => exact ⟨MlCw, (by unfold PySem.W.isFn; rw [T17]; rfl), N17⟩
    | unknown => exact ⟨MlCu, (by unfold PySem.W.isFn; rw [T17]; rfl), N17⟩
    | noted => exact ⟨MlCn, (by unfold PySem.W.isFn; rw [T17]; rfl), N17⟩
    | holding => exact ⟨MlCh, (by unfold PySem.W.isFn; rw [T17]; rfl), N17⟩
  have LT : LtM l.prog w K mg base (csOf Ck Cw Cu Cn Ch) CK g17 _ := ⟨LTM, ok_lets (fun_mk (st := sEntry_lets) L17 D17 N17) T B EX FR, (fun_mk (st := sEntry_lets) L17 D17 N17).binds (ps := ["self", "kinds", "year"]) (fun _ _ _ _ _ _ us hl => match us, hl with | [_, _, _], _ => rfl)⟩
  have ew := ok_ewithin (P := l.prog) (w := w) (mg := mg) (base := base) (fun_mk (st := sEntryWithin) l3 c3 k3) (PySem.W.mg_of X G a3) B Am' EX FR LT
  have nin := ok_namedin (P := l.prog) (w := w) (mg := mg) (base := base) (fun_mk (st := sNamedIn) l8 c8 k8) (PySem.W.mg_of X G a8) B EX
  have cp := ok_checkp (P := l.prog) (w := w) (mg := mg) (base := base) (fun_mk (st := sCheckPersons) l9 c9 k9) (PySem.W.mg_of X G a9) T ⟨_, PySem.W.mg_of X G y9⟩ nin
  have ef := ok_efault (P := l.prog) (w := w) (mg := mg) (base := base) (fun_mk (st := sEntryFault) l10 c10 k10) (PySem.W.mg_of X G a10) B Am' KX EX ET' oI oF
  have FA : AbsD K g22 _ := ⟨⟨_, _, _, _, _, _, _, _, _, _, rfl, L22, D22, .inl ⟨rfl, rfl⟩, .inr ⟨pD, rfl, fun q hq => by rw [List.mem_singleton.mp hq]; exact ⟨_, H3, rfl⟩⟩⟩, N22⟩
  have IM : Mk K CA g22 := ⟨u8CA, M22, (by unfold PySem.W.isFn; rw [T22]; rfl), u9CA⟩
  have IG := ok_ainit (P := l.prog) (w := w) (mg := mg) (base := base) (CA := CA) FA T B KX AX mK ⟨_, PySem.W.mg_of X G y8⟩ seqK ef cp
  have Im := PySem.W.mg_of X G mCA
  obtain ⟨gK, Ib⟩ := abs_bindsK FA
  obtain ⟨da, Ir, Ib3⟩ := abs_binds3 FA
  have oAL : OwnM l.prog w K mg base CA "__len__" 1 ["self"] (spALen CA CK (csOf Ck Cw Cu Cn Ch)) g18 _ := ⟨⟨M18, (by unfold PySem.W.isFn; rw [T18]; rfl), N18⟩, ok_alen (fun_mk (st := sAbstract_len) L18 D18 N18) T AX, (fun_mk (st := sAbstract_len) L18 D18 N18).binds (fun _ _ _ _ _ _ us hl => match us, hl with | [_], _ => rfl)⟩
  have MF : AbM l.prog w K mg base CA "fills" 4 ["self", "history"] (spFills CA C CK CO (csOf Ck Cw Cu Cn Ch)) g19 _ := ⟨⟨M19, (by unfold PySem.W.isFn; rw [T19]; rfl), N19⟩, ok_fills (fun_mk (st := sAbstract_fills) L19 D19 N19) Zm' AX HX KX EX oE uACK OO oHL oAL LT, (fun_mk (st := sAbstract_fills) L19 D19 N19).binds (ps := ["self", "history"]) (fun _ _ _ _ _ _ us hl => match us, hl with | [_, _], _ => rfl)⟩
  have MW : AbM l.prog w K mg base CA "is_within" 5 ["self", "other"] (spIsWithin CA CK CO (csOf Ck Cw Cu Cn Ch)) g20 _ := ⟨⟨M20, (by unfold PySem.W.isFn; rw [T20]; rfl), N20⟩, ok_iswithin (fun_mk (st := sAbstract_is_within) L20 D20 N20) Zm' AX KX oE uACK OO oAL ew, (fun_mk (st := sAbstract_is_within) L20 D20 N20).binds (ps := ["self", "other"]) (fun _ _ _ _ _ _ us hl => match us, hl with | [_, _], _ => rfl)⟩
  have arity := ok_xarity (P := l.prog) (w := w) (mg := mg) (base := base) (fun_mk (st := sLArity) l17 c17 k17) (PySem.W.mg_of X G a17) 
  have truth := ok_xtruth (P := l.prog) (w := w) (mg := mg) (base := base) (fun_mk (st := sLTruth) l20 c20 k20) (PySem.W.mg_of X G a20) B
  have pers := ok_xpers (P := l.prog) (w := w) (mg := mg) (base := base) (fun_mk (st := sLPersons) l21 c21 k21) (PySem.W.mg_of X G a21) 
  have deed := ok_xdeed (P := l.prog) (w := w) (mg := mg) (base := base) (fun_mk (st := sLDeed) l18 c18 k18) (PySem.W.mg_of X G a18) T B one
  have years := ok_xyears (P := l.prog) (w := w) (mg := mg) (base := base) (fun_mk (st := sLYears) l19 c19 k19) (PySem.W.mg_of X G a19) T draw deed
  have some' := ok_xsome (P := l.prog) (w := w) (mg := mg) (base := base) (fun_mk (st := sLSome) l22 c22 k22) (PySem.W.mg_of X G a22) T B draw
  have lnames := ok_xnames (P := l.prog) (w := w) (mg := mg) (base := base) (fun_mk (st := sLNames) l23 c23 k23) (PySem.W.mg_of X G a23) T draw some'
  have entry := ok_xentry (P := l.prog) (w := w) (mg := mg) (base := base) (fun_mk (st := sLEntry) l24 c24 k24) (PySem.W.mg_of X G a24) T draw one deed lnames
  have entries := ok_xentries (P := l.prog) (w := w) (mg := mg) (base := base) (fun_mk (st := sLEntries) l25 c25 k25) (PySem.W.mg_of X G a25) T (PySem.W.mg_none_of X G z_min) one entry
  have free := ok_xfree (P := l.prog) (w := w) (mg := mg) (base := base) (fun_mk (st := sLFree) l26 c26 k26) (PySem.W.mg_of X G a26) 
  have lets := ok_xlets (P := l.prog) (w := w) (mg := mg) (base := base) (fun_mk (st := sLLets) l27 c27 k27) (PySem.W.mg_of X G a27) T B free
  have fills := ok_xfills (P := l.prog) (w := w) (mg := mg) (base := base) (fun_mk (st := sLFills) l28 c28 k28) (PySem.W.mg_of X G a28) T lets
  have putin := ok_xputin (P := l.prog) (w := w) (mg := mg) (base := base) (fun_mk (st := sLPutIn) l29 c29 k29) (PySem.W.mg_of X G a29) T B draw one free
  have filling := ok_xfilling (P := l.prog) (w := w) (mg := mg) (base := base) (fun_mk (st := sLFilling) l30 c30 k30) (PySem.W.mg_of X G a30) years putin
  have made := ok_xmade (Cs := (csOf Ck Cw Cu Cn Ch)) (P := l.prog) (w := w) (mg := mg) (base := base) (fun_mk (st := sLEntryMade) l31 c31 k31) (PySem.W.mg_of X G a31) N_Ck N_Ch N_Cu N_Cw N_Cn
  have custom := ok_xcustom (P := l.prog) (w := w) (mg := mg) (base := base) (fun_mk (st := sLCustom) l32 c32 k32) (PySem.W.mg_of X G a32) T draw some'
  have bent := ok_xbent (P := l.prog) (w := w) (mg := mg) (base := base) (fun_mk (st := sLBent) l33 c33 k33) (PySem.W.mg_of X G a33) T B draw deed
  have looser := ok_xlooser (P := l.prog) (w := w) (mg := mg) (base := base) (fun_mk (st := sLLooser) l34 c34 k34) (PySem.W.mg_of X G a34) T draw lnames entry
  have probes := ok_xprobes (P := l.prog) (w := w) (mg := mg) (base := base) (fun_mk (st := sLProbes) l35 c35 k35) (PySem.W.mg_of X G a35) B free arity
  have within := ok_xwithin (P := l.prog) (w := w) (mg := mg) (base := base) (fun_mk (st := sLWithin) l36 c36 k36) (PySem.W.mg_of X G a36) probes lets
  have awithin := ok_xawithin (P := l.prog) (w := w) (mg := mg) (base := base) (fun_mk (st := sLAbstractWithin) l37 c37 k37) (PySem.W.mg_of X G a37) T B probes fills
  have yright := ok_xyright (P := l.prog) (w := w) (mg := mg) (base := base) (fun_mk (st := sLYearsRight) l38 c38 k38) (PySem.W.mg_of X G a38) T B EX LT made putin bent truth lets
  have fright := ok_xfright (P := l.prog) (w := w) (mg := mg) (base := base) (fun_mk (st := sLFillsRight) l39 c39 k39) (PySem.W.mg_of X G a39) T AX MF MH draw filling bent truth fills
  have refuses := ok_xrefuses (P := l.prog) (w := w) (mg := mg) (base := base) (fun_mk (st := sLRefusesKinds) l40 c40 k40) (PySem.W.mg_of X G a40) AX KX EO MF MW MK MH bHD rdH we IM IG Im Ib3 Ir
  have A : All38 l.prog w K mg base C CA CK CB CKB CO g2 g22 g20 _ _ _ (csOf Ck Cw Cu Cn Ch) _ := { hand := hand, draw := draw, one := one, truth := truth, pers := pers, some := some', entries := entries, custom := custom, made := made, looser := looser, within := within, awithin := awithin, yright := yright, fright := fright, refuses := refuses, ewithin := ew, MK := MK, AX := AX, MW := MW, IM := IM, IG := IG, Im := Im, Ib := Ib, mi := (PySem.W.mg_none_of X G z_min) }
  exact law_at (fun_mk (st := sLaw) l41 c41 k41) scLaw ⟨rfl, by decide, by decide⟩ (law_body T A) (fun s v => .of_eq rfl) e0 hS hn
end Kx

set_option maxHeartbeats 8000000
namespace Kx
open PySem PySem.W PySem.Calls PyProof.Rows
abbrev hR : OpenRow := OpenLaw.row PySem.Challenge.rw_searchback_k38_whole_years_let_and_abstr
abbrev hq : Program := view hR.prog [75]
def hnames0 : List PySem.Str := ["_wall", "SearchError", "BadKinds", "BadHistory", "BadYears", "OtherKinds", "BadEntry", "BadAbstract", "LONGEST_LABEL", "is_whole", "is_label", "is_sequence", "Entry", "Known", "Without", "Unknown", "Noted", "Holding", "entry_within", "_kind_names", "_told_deeds", "_others", "MOST_KINDS", "MOST_ARITY", "YEAR"]
def hnames1 : List PySem.Str := ["Kinds", "_row_fault", "MOST_ENTRIES", "MOST_NAMED", "Abstract", "_named_in", "_check_persons", "_entry_fault", "MOST_YEARS", "MOST_DEEDS", "History", "history_of", "_last_of", "_is_too_long", "_year_of", "_law_mix", "_law_hand", "_law_draw", "_law_one", "_law_arity", "_law_deed", "_law_years", "_law_truth", "_law_persons", "_law_some"]
def hnames2 : List PySem.Str := ["_law_names", "_law_entry", "_law_entries", "_law_free", "_law_lets", "_law_fills", "_law_put_in", "_law_filling", "_law_entry_made", "_law_custom", "_law_bent", "_law_looser", "_law_probes", "_law_within", "_law_abstract_within", "_law_years_right", "_law_fills_right", "_law_refuses_kinds"]
def hnames : List PySem.Str := hnames0 ++ hnames1 ++ hnames2

def kob (as : List Addr) (s : SharedT) : List (Option Obj) := as.map (HandSHeadRun.getT s)
set_option maxHeartbeats 0 in
theorem head_k (K : Params → Frag) (as : List Addr) (e : ∀ P, as = (K P).map (·.1)) (run : ∀ w, HandSHeadRun.RunEq hR hq (kHook K as e) (kob as) 12000 hnames w) (k1 : hR.wellSaid = true) (hw : hR.toRowW.promised)
    (call : WalkO hq hnames (XL hq []) (kHook K as e).says hR.toRowW (HandSHeadRun.topDef hR.prog 75) [] fun f vs => PySem.call f vs) : hR.Holds :=
  HandSHeadRun.head_any (r := hR) (q := hq) (H := kHook K as e) (ob := kob as) (M := 12000) (loose := hnames) (d := HandSHeadRun.topDef hR.prog 75) (kwd := []) (fun s => congrArg (fun g => as.map g) (funext (HandSHeadRun.getT_eq s)))
    (by kernel_rfl) (fun s => by kernel_rfl) run (by kernel_rfl) (by kernel_rfl) (by kernel_rfl) (by rfl) k1 (by decide +kernel) ⟨rfl, rfl, rfl, rfl, rfl, by decide +kernel⟩ hw call
end Kx
open PySem PySem.W PyProof.Rows
local macro_rules
  | `(tactic| o_head ($_:ident $K:term $a:term $e:term)) => `(tactic| refine Kx.head_k $K $a $e (fun w => (by intro os; kernel_rfl)) (by first | assumption | decide +kernel) ?hw ?hc)
set_option maxRecDepth 100000 in
set_option maxHeartbeats 0 in
theorem PySem.Challenge.cw_searchback_k38_whole_years_let_and_abstr_holds : PySem.Challenge.rw_searchback_k38_whole_years_let_and_abstr.Holds := by
  w_on; o_law; k_head; (case hw => w_witness2)
  k_fill
  refine Kx.law_walk (l := PySem.Challenge.rw_searchback_k38_whole_years_let_and_abstr) rfl (by kernel_rfl) (fun w h Y => PySem.W.kIn_of Y) ?F
  case F =>
    intro w mg fa h KX G hmg0
    have hmg : mg ("law" : PySem.Str) = some (.ref fa) := by
      have e : (HandSHeadRun.topDef Kx.hR.prog 75).name = ("law" : PySem.Str) := by kernel_rfl
      rw [← e]
      exact hmg0
    refine' Kx.all_mk KX G hmg ?a0 ?l0 ?c0 ?k0 ?a1 ?l1 ?c1 ?k1 ?a2 ?l2 ?c2 ?k2 ?a3 ?l3 ?c3 ?k3 ?a4 ?l4 ?c4 ?k4 ?a5 ?l5 ?c5 ?k5 ?a6 ?l6 ?c6 ?k6 ?a7 ?l7 ?c7 ?k7 ?a8 ?l8 ?c8 ?k8 ?a9 ?l9 ?c9 ?k9 ?a10 ?l10 ?c10 ?k10 ?a11 ?l11 ?c11 ?k11 ?a12 ?l12 ?c12 ?k12 ?a13 ?l13 ?c13 ?k13 ?a14 ?l14 ?c14 ?k14 ?a15 ?l15 ?c15 ?k15 ?a16 ?l16 ?c16 ?k16 ?a17 ?l17 ?c17 ?k17 ?a18 ?l18 ?c18 ?k18 ?a19 ?l19 ?c19 ?k19 ?a20 ?l20 ?c20 ?k20 ?a21 ?l21 ?c21 ?k21 ?a22 ?l22 ?c22 ?k22 ?a23 ?l23 ?c23 ?k23 ?a24 ?l24 ?c24 ?k24 ?a25 ?l25 ?c25 ?k25 ?a26 ?l26 ?c26 ?k26 ?a27 ?l27 ?c27 ?k27 ?a28 ?l28 ?c28 ?k28 ?a29 ?l29 ?c29 ?k29 ?a30 ?l30 ?c30 ?k30 ?a31 ?l31 ?c31 ?k31 ?a32 ?l32 ?c32 ?k32 ?a33 ?l33 ?c33 ?k33 ?a34 ?l34 ?c34 ?k34 ?a35 ?l35 ?c35 ?k35 ?a36 ?l36 ?c36 ?k36 ?a37 ?l37 ?c37 ?k37 ?a38 ?l38 ?c38 ?k38 ?a39 ?l39 ?c39 ?k39 ?a40 ?l40 ?c40 ?k40 ?a41 ?l41 ?c41 ?k41 ?mC ?mCK ?mCA ?mCB ?mCKB ?mCO ?mCE ?mCk ?mCh ?mCu ?mCw ?mCn ?M0 ?L0 ?D0 ?N0 ?T0 ?M1 ?L1 ?D1 ?N1 ?T1 ?M2 ?L2 ?D2 ?N2 ?T2 ?M3 ?L3 ?D3 ?N3 ?T3 ?M4 ?L4 ?D4 ?N4 ?T4 ?M5 ?L5 ?D5 ?N5 ?T5 ?M6 ?L6 ?D6 ?N6 ?T6 ?M7 ?L7 ?D7 ?N7 ?T7 ?M8 ?L8 ?D8 ?N8 ?T8 ?M9 ?L9 ?D9 ?N9 ?T9 ?M10 ?L10 ?D10 ?N10 ?T10 ?M11 ?L11 ?D11 ?N11 ?T11 ?M12 ?L12 ?D12 ?N12 ?T12 ?M13 ?L13 ?D13 ?N13 ?T13 ?M14 ?L14 ?D14 ?N14 ?T14 ?M15 ?L15 ?D15 ?N15 ?T15 ?M16 ?L16 ?D16 ?N16 ?T16 ?M17 ?L17 ?D17 ?N17 ?T17 ?M18 ?L18 ?D18 ?N18 ?T18 ?M19 ?L19 ?D19 ?N19 ?T19 ?M20 ?L20 ?D20 ?N20 ?T20 ?MlCh ?MlCu ?MlCw ?MlCn ?M21 ?L21 ?D21 ?N21 ?T21 ?H1 ?H2 ?M22 ?L22 ?D22 ?N22 ?T22 ?H3 ?u1C ?u2C ?u3C ?u4C ?u5C_kinds ?u5C_years ?u6C ?u7C ?u8C ?u9C ?u1CK ?u2CK ?u3CK ?u4CK ?u5CK_rows ?u5CK_names ?u5CK__arities ?u6CK ?u7CK ?u8CK ?u9CK ?u1CA ?u2CA ?u3CA ?u4CA ?u5CA_kinds ?u5CA_years ?u5CA_whole ?u6CA ?u7CA ?u8CA ?u9CA ?u1Ck ?u2Ck ?u3Ck ?u4Ck ?u5Ck_told ?u5Ck_names ?u6Ck ?u7Ck ?u8Ck ?u9Ck ?u1Ch ?u2Ch ?u3Ch ?u4Ch ?u5Ch_told ?u5Ch_names ?u6Ch ?u7Ch ?u8Ch ?u9Ch ?u1Cu ?u2Cu ?u3Cu ?u4Cu ?u5Cu_told ?u5Cu_names ?u6Cu ?u7Cu ?u8Cu ?u9Cu ?u1Cw ?u2Cw ?u3Cw ?u4Cw ?u5Cw_told ?u5Cw_names ?u6Cw ?u7Cw ?u8Cw ?u9Cw ?u1Cn ?u2Cn ?u3Cn ?u4Cn ?u5Cn_told ?u5Cn_names ?u6Cn ?u7Cn ?u8Cn ?u9Cn ?uACK ?wCK_NoneType ?wCK_list ?wCK_str ?wCK_tuple ?wECk ?wNCk ?wECh ?wNCh ?wECu ?wNCu ?wECw ?wNCw ?wECn ?wNCn ?q1 ?q2 ?nCB_year ?nCB_index ?nCB_what ?nCKB_index ?nCKB_what ?xCO ?eO1 ?eO2 ?eO3 ?eO4 ?y2 ?y3 ?y4 ?y5 ?y6 ?y7 ?y8 ?y9 ?o1CB ?o2CB ?o3CB ?o4CB ?o5CB ?o6CB ?o7CB ?o8CB ?o1CKB ?o2CKB ?o3CKB ?o4CKB ?o5CKB ?o6CKB ?o7CKB ?o8CKB ?z_int ?z_abs ?z_len ?z_enumerate ?z_range ?z_isinstance ?z_str ?z_bool ?z_list ?z_tuple ?z_sum ?z_min ?z_zip ?z_all
    (case a0 => first | k_is | exact rfl | kernel_rfl | decide +kernel)
    (case l0 => first | k_is | exact rfl | kernel_rfl | decide +kernel)
    (case c0 => first | k_is | exact rfl | kernel_rfl | decide +kernel)
    (case k0 => first | k_is | exact rfl | kernel_rfl | decide +kernel)
    (case a1 => first | k_is | exact rfl | kernel_rfl | decide +kernel)
    (case l1 => first | k_is | exact rfl | kernel_rfl | decide +kernel)
    (case c1 => first | k_is | exact rfl | kernel_rfl | decide +kernel)
    (case k1 => first | k_is | exact rfl | kernel_rfl | decide +kernel)
    (case a2 => first | k_is | exact rfl | kernel_rfl | decide +kernel)
    (case l2 => first | k_is | exact rfl | kernel_rfl | decide +kernel)
    (case c2 => first | k_is | exact rfl | kernel_rfl | decide +kernel)
    (case k2 => first | k_is | exact rfl | kernel_rfl | decide +kernel)
    (case a3 => first | k_is | exact rfl | kernel_rfl | decide +kernel)
    (case l3 => first | k_is | exact rfl | kernel_rfl | decide +kernel)
    (case c3 => first | k_is | exact rfl | kernel_rfl | decide +kernel)
    (case k3 => first | k_is | exact rfl | kernel_rfl | decide +kernel)
    (case a4 => first | k_is | exact rfl | kernel_rfl | decide +kernel)
    (case l4 => first | k_is | exact rfl | kernel_rfl | decide +kernel)
    (case c4 => first | k_is | exact rfl | kernel_rfl | decide +kernel)
    (case k4 => first | k_is | exact rfl | kernel_rfl | decide +kernel)
    (case a5 => first | k_is | exact rfl | kernel_rfl | decide +kernel)
    (case l5 => first | k_is | exact rfl | kernel_rfl | decide +kernel)
    (case c5 => first | k_is | exact rfl | kernel_rfl | decide +kernel)
    (case k5 => first | k_is | exact rfl | kernel_rfl | decide +kernel)
    (case a6 => first | k_is | exact rfl | kernel_rfl | decide +kernel)
    (case l6 => first | k_is | exact rfl | kernel_rfl | decide +kernel)
    (case c6 => first | k_is | exact rfl | kernel_rfl | decide +kernel)
    (case k6 => first | k_is | exact rfl | kernel_rfl | decide +kernel)
    (case a7 => first | k_is | exact rfl | kernel_rfl | decide +kernel)
    (case l7 => first | k_is | exact rfl | kernel_rfl | decide +kernel)
    (case c7 => first | k_is | exact rfl | kernel_rfl | decide +kernel)
    (case k7 => first | k_is | exact rfl | kernel_rfl | decide +kernel)
    (case a8 => first | k_is | exact rfl | kernel_rfl | decide +kernel)
    (case l8 => first | k_is | exact rfl | kernel_rfl | decide +kernel)
    (case c8 => first | k_is | exact rfl | kernel_rfl | decide +kernel)
    (case k8 => first | k_is | exact rfl | kernel_rfl | decide +kernel)
    (case a9 => first | k_is | exact rfl | kernel_rfl | decide +kernel)
    (case l9 => first | k_is | exact rfl | kernel_rfl | decide +kernel)
    (case c9 => first | k_is | exact rfl | kernel_rfl | decide +kernel)
    (case k9 => first | k_is | exact rfl | kernel_rfl | decide +kernel)
    (case a10 => first | k_is | exact rfl | kernel_rfl | decide +kernel)
    (case l10 => first | k_is | exact rfl | kernel_rfl | decide +kernel)
    (case c10 => first | k_is | exact rfl | kernel_rfl | decide +kernel)
    (case k10 => first | k_is | exact rfl | kernel_rfl | decide +kernel)
    (case a11 => first | k_is | exact rfl | kernel_rfl | decide +kernel)
    (case l11 => first | k_is | exact rfl | kernel_rfl | decide +kernel)
    (case c11 => first | k_is | exact rfl | kernel_rfl | decide +kernel)
    (case k11 => first | k_is | exact rfl | kernel_rfl | decide +kernel)
    (case a12 => first | k_is | exact rfl | kernel_rfl | decide +kernel)
    (case l12 => first | k_is | exact rfl | kernel_rfl | decide +kernel)
    (case c12 => first | k_is | exact rfl | kernel_rfl | decide +kernel)
    (case k12 => first | k_is | exact rfl | kernel_rfl | decide +kernel)
    (case a13 => first | k_is | exact rfl | kernel_rfl | decide +kernel)
    (case l13 => first | k_is | exact rfl | kernel_rfl | decide +kernel)
    (case c13 => first | k_is | exact rfl | kernel_rfl | decide +kernel)
    (case k13 => first | k_is | exact rfl | kernel_rfl | decide +kernel)
    (case a14 => first | k_is | exact rfl | kernel_rfl | decide +kernel)
    (case l14 => first | k_is | exact rfl | kernel_rfl | decide +kernel)
    (case c14 => first | k_is | exact rfl | kernel_rfl | decide +kernel)
    (case k14 => first | k_is | exact rfl | kernel_rfl | decide +kernel)
    (case a15 => first | k_is | exact rfl | kernel_rfl | decide +kernel)
    (case l15 => first | k_is | exact rfl | kernel_rfl | decide +kernel)
    (case c15 => first | k_is | exact rfl | kernel_rfl | decide +kernel)
    (case k15 => first | k_is | exact rfl | kernel_rfl | decide +kernel)
    (case a16 => first | k_is | exact rfl | kernel_rfl | decide +kernel)
    (case l16 => first | k_is | exact rfl | kernel_rfl | decide +kernel)
    (case c16 => first | k_is | exact rfl | kernel_rfl | decide +kernel)
    (case k16 => first | k_is | exact rfl | kernel_rfl | decide +kernel)
    (case a17 => first | k_is | exact rfl | kernel_rfl | decide +kernel)
    (case l17 => first | k_is | exact rfl | kernel_rfl | decide +kernel)
    (case c17 => first | k_is | exact rfl | kernel_rfl | decide +kernel)
    (case k17 => first | k_is | exact rfl | kernel_rfl | decide +kernel)
    (case a18 => first | k_is | exact rfl | kernel_rfl | decide +kernel)
    (case l18 => first | k_is | exact rfl | kernel_rfl | decide +kernel)
    (case c18 => first | k_is | exact rfl | kernel_rfl | decide +kernel)
    (case k18 => first | k_is | exact rfl | kernel_rfl | decide +kernel)
    (case a19 => first | k_is | exact rfl | kernel_rfl | decide +kernel)
    (case l19 => first | k_is | exact rfl | kernel_rfl | decide +kernel)
    (case c19 => first | k_is | exact rfl | kernel_rfl | decide +kernel)
    (case k19 => first | k_is | exact rfl | kernel_rfl | decide +kernel)
    (case a20 => first | k_is | exact rfl | kernel_rfl | decide +kernel)
    (case l20 => first | k_is | exact rfl | kernel_rfl | decide +kernel)
    (case c20 => first | k_is | exact rfl | kernel_rfl | decide +kernel)
    (case k20 => first | k_is | exact rfl | kernel_rfl | decide +kernel)
    (case a21 => first | k_is | exact rfl | kernel_rfl | decide +kernel)
    (case l21 => first | k_is | exact rfl | kernel_rfl | decide +kernel)
    (case c21 => first | k_is | exact rfl | kernel_rfl | decide +kernel)
    (case k21 => first | k_is | exact rfl | kernel_rfl | decide +kernel)
    (case a22 => first | k_is | exact rfl | kernel_rfl | decide +kernel)
    (case l22 => first | k_is | exact rfl | kernel_rfl | decide +kernel)
    (case c22 => first | k_is | exact rfl | kernel_rfl | decide +kernel)
    (case k22 => first | k_is | exact rfl | kernel_rfl | decide +kernel)
    (case a23 => first | k_is | exact rfl | kernel_rfl | decide +kernel)
    (case l23 => first | k_is | exact rfl | kernel_rfl | decide +kernel)
    (case c23 => first | k_is | exact rfl | kernel_rfl | decide +kernel)
    (case k23 => first | k_is | exact rfl | kernel_rfl | decide +kernel)
    (case a24 => first | k_is | exact rfl | kernel_rfl | decide +kernel)
    (case l24 => first | k_is | exact rfl | kernel_rfl | decide +kernel)
    (case c24 => first | k_is | exact rfl | kernel_rfl | decide +kernel)
    (case k24 => first | k_is | exact rfl | kernel_rfl | decide +kernel)
    (case a25 => first | k_is | exact rfl | kernel_rfl | decide +kernel)
    (case l25 => first | k_is | exact rfl | kernel_rfl | decide +kernel)
    (case c25 => first | k_is | exact rfl | kernel_rfl | decide +kernel)
    (case k25 => first | k_is | exact rfl | kernel_rfl | decide +kernel)
    (case a26 => first | k_is | exact rfl | kernel_rfl | decide +kernel)
    (case l26 => first | k_is | exact rfl | kernel_rfl | decide +kernel)
    (case c26 => first | k_is | exact rfl | kernel_rfl | decide +kernel)
    (case k26 => first | k_is | exact rfl | kernel_rfl | decide +kernel)
    (case a27 => first | k_is | exact rfl | kernel_rfl | decide +kernel)
    (case l27 => first | k_is | exact rfl | kernel_rfl | decide +kernel)
    (case c27 => first | k_is | exact rfl | kernel_rfl | decide +kernel)
    (case k27 => first | k_is | exact rfl | kernel_rfl | decide +kernel)
    (case a28 => first | k_is | exact rfl | kernel_rfl | decide +kernel)
    (case l28 => first | k_is | exact rfl | kernel_rfl | decide +kernel)
    (case c28 => first | k_is | exact rfl | kernel_rfl | decide +kernel)
    (case k28 => first | k_is | exact rfl | kernel_rfl | decide +kernel)
    (case a29 => first | k_is | exact rfl | kernel_rfl | decide +kernel)
    (case l29 => first | k_is | exact rfl | kernel_rfl | decide +kernel)
    (case c29 => first | k_is | exact rfl | kernel_rfl | decide +kernel)
    (case k29 => first | k_is | exact rfl | kernel_rfl | decide +kernel)
    (case a30 => first | k_is | exact rfl | kernel_rfl | decide +kernel)
    (case l30 => first | k_is | exact rfl | kernel_rfl | decide +kernel)
    (case c30 => first | k_is | exact rfl | kernel_rfl | decide +kernel)
    (case k30 => first | k_is | exact rfl | kernel_rfl | decide +kernel)
    (case a31 => first | k_is | exact rfl | kernel_rfl | decide +kernel)
    (case l31 => first | k_is | exact rfl | kernel_rfl | decide +kernel)
    (case c31 => first | k_is | exact rfl | kernel_rfl | decide +kernel)
    (case k31 => first | k_is | exact rfl | kernel_rfl | decide +kernel)
    (case a32 => first | k_is | exact rfl | kernel_rfl | decide +kernel)
    (case l32 => first | k_is | exact rfl | kernel_rfl | decide +kernel)
    (case c32 => first | k_is | exact rfl | kernel_rfl | decide +kernel)
    (case k32 => first | k_is | exact rfl | kernel_rfl | decide +kernel)
    (case a33 => first | k_is | exact rfl | kernel_rfl | decide +kernel)
    (case l33 => first | k_is | exact rfl | kernel_rfl | decide +kernel)
    (case c33 => first | k_is | exact rfl | kernel_rfl | decide +kernel)
    (case k33 => first | k_is | exact rfl | kernel_rfl | decide +kernel)
    (case a34 => first | k_is | exact rfl | kernel_rfl | decide +kernel)
    (case l34 => first | k_is | exact rfl | kernel_rfl | decide +kernel)
    (case c34 => first | k_is | exact rfl | kernel_rfl | decide +kernel)
    (case k34 => first | k_is | exact rfl | kernel_rfl | decide +kernel)
    (case a35 => first | k_is | exact rfl | kernel_rfl | decide +kernel)
    (case l35 => first | k_is | exact rfl | kernel_rfl | decide +kernel)
    (case c35 => first | k_is | exact rfl | kernel_rfl | decide +kernel)
    (case k35 => first | k_is | exact rfl | kernel_rfl | decide +kernel)
    (case a36 => first | k_is | exact rfl | kernel_rfl | decide +kernel)
    (case l36 => first | k_is | exact rfl | kernel_rfl | decide +kernel)
    (case c36 => first | k_is | exact rfl | kernel_rfl | decide +kernel)
    (case k36 => first | k_is | exact rfl | kernel_rfl | decide +kernel)
    (case a37 => first | k_is | exact rfl | kernel_rfl | decide +kernel)
    (case l37 => first | k_is | exact rfl | kernel_rfl | decide +kernel)
    (case c37 => first | k_is | exact rfl | kernel_rfl | decide +kernel)
    (case k37 => first | k_is | exact rfl | kernel_rfl | decide +kernel)
    (case a38 => first | k_is | exact rfl | kernel_rfl | decide +kernel)
    (case l38 => first | k_is | exact rfl | kernel_rfl | decide +kernel)
    (case c38 => first | k_is | exact rfl | kernel_rfl | decide +kernel)
    (case k38 => first | k_is | exact rfl | kernel_rfl | decide +kernel)
    (case a39 => first | k_is | exact rfl | kernel_rfl | decide +kernel)
    (case l39 => first | k_is | exact rfl | kernel_rfl | decide +kernel)
    (case c39 => first | k_is | exact rfl | kernel_rfl | decide +kernel)
    (case k39 => first | k_is | exact rfl | kernel_rfl | decide +kernel)
    (case a40 => first | k_is | exact rfl | kernel_rfl | decide +kernel)
    (case l40 => first | k_is | exact rfl | kernel_rfl | decide +kernel)
    (case c40 => first | k_is | exact rfl | kernel_rfl | decide +kernel)
    (case k40 => first | k_is | exact rfl | kernel_rfl | decide +kernel)
    (case a41 => first | k_is | exact rfl | kernel_rfl | decide +kernel)
    (case l41 => first | k_is | exact rfl | kernel_rfl | decide +kernel)
    (case c41 => first | k_is | exact rfl | kernel_rfl | decide +kernel)
    (case k41 => first | k_is | exact rfl | kernel_rfl | decide +kernel)
    (case mC => first | k_is | exact rfl | kernel_rfl | decide +kernel)
    (case mCK => first | k_is | exact rfl | kernel_rfl | decide +kernel)
    (case mCA => first | k_is | exact rfl | kernel_rfl | decide +kernel)
    (case mCB => first | k_is | exact rfl | kernel_rfl | decide +kernel)
    (case mCKB => first | k_is | exact rfl | kernel_rfl | decide +kernel)
    (case mCO => first | k_is | exact rfl | kernel_rfl | decide +kernel)
    (case mCE => first | k_is | exact rfl | kernel_rfl | decide +kernel)
    (case mCk => first | k_is | exact rfl | kernel_rfl | decide +kernel)
    (case mCh => first | k_is | exact rfl | kernel_rfl | decide +kernel)
    (case mCu => first | k_is | exact rfl | kernel_rfl | decide +kernel)
    (case mCw => first | k_is | exact rfl | kernel_rfl | decide +kernel)
    (case mCn => first | k_is | exact rfl | kernel_rfl | decide +kernel)
    (case M0 => first | k_is | exact rfl | kernel_rfl | decide +kernel)
    (case L0 => first | k_is | exact rfl | kernel_rfl | decide +kernel)
    (case D0 => first | k_is | exact rfl | kernel_rfl | decide +kernel)
    (case N0 => first | k_is | exact rfl | kernel_rfl | decide +kernel)
    (case T0 => first | k_is | exact rfl | kernel_rfl | decide +kernel)
    (case M1 => first | k_is | exact rfl | kernel_rfl | decide +kernel)
    (case L1 => first | k_is | exact rfl | kernel_rfl | decide +kernel)
    (case D1 => first | k_is | exact rfl | kernel_rfl | decide +kernel)
    (case N1 => first | k_is | exact rfl | kernel_rfl | decide +kernel)
    (case T1 => first | k_is | exact rfl | kernel_rfl | decide +kernel)
    (case M2 => first | k_is | exact rfl | kernel_rfl | decide +kernel)
    (case L2 => first | k_is | exact rfl | kernel_rfl | decide +kernel)
    (case D2 => first | k_is | exact rfl | kernel_rfl | decide +kernel)
    (case N2 => first | k_is | exact rfl | kernel_rfl | decide +kernel)
    (case T2 => first | k_is | exact rfl | kernel_rfl | decide +kernel)
    (case M3 => first | k_is | exact rfl | kernel_rfl | decide +kernel)
    (case L3 => first | k_is | exact rfl | kernel_rfl | decide +kernel)
    (case D3 => first | k_is | exact rfl | kernel_rfl | decide +kernel)
    (case N3 => first | k_is | exact rfl | kernel_rfl | decide +kernel)
    (case T3 => first | k_is | exact rfl | kernel_rfl | decide +kernel)
    (case M4 => first | k_is | exact rfl | kernel_rfl | decide +kernel)
    (case L4 => first | k_is | exact rfl | kernel_rfl | decide +kernel)
    (case D4 => first | k_is | exact rfl | kernel_rfl | decide +kernel)
    (case N4 => first | k_is | exact rfl | kernel_rfl | decide +kernel)
    (case T4 => first | k_is | exact rfl | kernel_rfl | decide +kernel)
    (case M5 => first | k_is | exact rfl | kernel_rfl | decide +kernel)
    (case L5 => first | k_is | exact rfl | kernel_rfl | decide +kernel)
    (case D5 => first | k_is | exact rfl | kernel_rfl | decide +kernel)
    (case N5 => first | k_is | exact rfl | kernel_rfl | decide +kernel)
    (case T5 => first | k_is | exact rfl | kernel_rfl | decide +kernel)
    (case M6 => first | k_is | exact rfl | kernel_rfl | decide +kernel)
    (case L6 => first | k_is | exact rfl | kernel_rfl | decide +kernel)
    (case D6 => first | k_is | exact rfl | kernel_rfl | decide +kernel)
    (case N6 => first | k_is | exact rfl | kernel_rfl | decide +kernel)
    (case T6 => first | k_is | exact rfl | kernel_rfl | decide +kernel)
    (case M7 => first | k_is | exact rfl | kernel_rfl | decide +kernel)
    (case L7 => first | k_is | exact rfl | kernel_rfl | decide +kernel)
    (case D7 => first | k_is | exact rfl | kernel_rfl | decide +kernel)
    (case N7 => first | k_is | exact rfl | kernel_rfl | decide +kernel)
    (case T7 => first | k_is | exact rfl | kernel_rfl | decide +kernel)
    (case M8 => first | k_is | exact rfl | kernel_rfl | decide +kernel)
    (case L8 => first | k_is | exact rfl | kernel_rfl | decide +kernel)
    (case D8 => first | k_is | exact rfl | kernel_rfl | decide +kernel)
    (case N8 => first | k_is | exact rfl | kernel_rfl | decide +kernel)
    (case T8 => first | k_is | exact rfl | kernel_rfl | decide +kernel)
    (case M9 => first | k_is | exact rfl | kernel_rfl | decide +kernel)
    (case L9 => first | k_is | exact rfl | kernel_rfl | decide +kernel)
    (case D9 => first | k_is | exact rfl | kernel_rfl | decide +kernel)
    (case N9 => first | k_is | exact rfl | kernel_rfl | decide +kernel)
    (case T9 => first | k_is | exact rfl | kernel_rfl | decide +kernel)
    (case M10 => first | k_is | exact rfl | kernel_rfl | decide +kernel)
    (case L10 => first | k_is | exact rfl | kernel_rfl | decide +kernel)
    (case D10 => first | k_is | exact rfl | kernel_rfl | decide +kernel)
    (case N10 => first | k_is | exact rfl | kernel_rfl | decide +kernel)
    (case T10 => first | k_is | exact rfl | kernel_rfl | decide +kernel)
    (case M11 => first | k_is | exact rfl | kernel_rfl | decide +kernel)
    (case L11 => first | k_is | exact rfl | kernel_rfl | decide +kernel)
    (case D11 => first | k_is | exact rfl | kernel_rfl | decide +kernel)
    (case N11 => first | k_is | exact rfl | kernel_rfl | decide +kernel)
    (case T11 => first | k_is | exact rfl | kernel_rfl | decide +kernel)
    (case M12 => first | k_is | exact rfl | kernel_rfl | decide +kernel)
    (case L12 => first | k_is | exact rfl | kernel_rfl | decide +kernel)
    (case D12 => first | k_is | exact rfl | kernel_rfl | decide +kernel)
    (case N12 => first | k_is | exact rfl | kernel_rfl | decide +kernel)
    (case T12 => first | k_is | exact rfl | kernel_rfl | decide +kernel)
    (case M13 => first | k_is | exact rfl | kernel_rfl | decide +kernel)
    (case L13 => first | k_is | exact rfl | kernel_rfl | decide +kernel)
    (case D13 => first | k_is | exact rfl | kernel_rfl | decide +kernel)
    (case N13 => first | k_is | exact rfl | kernel_rfl | decide +kernel)
    (case T13 => first | k_is | exact rfl | kernel_rfl | decide +kernel)
    (case M14 => first | k_is | exact rfl | kernel_rfl | decide +kernel)
    (case L14 => first | k_is | exact rfl | kernel_rfl | decide +kernel)
    (case D14 => first | k_is | exact rfl | kernel_rfl | decide +kernel)
    (case N14 => first | k_is | exact rfl | kernel_rfl | decide +kernel)
    (case T14 => first | k_is | exact rfl | kernel_rfl | decide +kernel)
    (case M15 => first | k_is | exact rfl | kernel_rfl | decide +kernel)
    (case L15 => first | k_is | exact rfl | kernel_rfl | decide +kernel)
    (case D15 => first | k_is | exact rfl | kernel_rfl | decide +kernel)
    (case N15 => first | k_is | exact rfl | kernel_rfl | decide +kernel)
    (case T15 => first | k_is | exact rfl | kernel_rfl | decide +kernel)
    (case M16 => first | k_is | exact rfl | kernel_rfl | decide +kernel)
    (case L16 => first | k_is | exact rfl | kernel_rfl | decide +kernel)
    (case D16 => first | k_is | exact rfl | kernel_rfl | decide +kernel)
    (case N16 => first | k_is | exact rfl | kernel_rfl | decide +kernel)
    (case T16 => first | k_is | exact rfl | kernel_rfl | decide +kernel)
    (case M17 => first | k_is | exact rfl | kernel_rfl | decide +kernel)
    (case L17 => first | k_is | exact rfl | kernel_rfl | decide +kernel)
    (case D17 => first | k_is | exact rfl | kernel_rfl | decide +kernel)
    (case N17 => first | k_is | exact rfl | kernel_rfl | decide +kernel)
    (case T17 => first | k_is | exact rfl | kernel_rfl | decide +kernel)
    (case M18 => first | k_is | exact rfl | kernel_rfl | decide +kernel)
    (case L18 => first | k_is | exact rfl | kernel_rfl | decide +kernel)
    (case D18 => first | k_is | exact rfl | kernel_rfl | decide +kernel)
    (case N18 => first | k_is | exact rfl | kernel_rfl | decide +kernel)
    (case T18 => first | k_is | exact rfl | kernel_rfl | decide +kernel)
    (case M19 => first | k_is | exact rfl | kernel_rfl | decide +kernel)
    (case L19 => first | k_is | exact rfl | kernel_rfl | decide +kernel)
    (case D19 => first | k_is | exact rfl | kernel_rfl | decide +kernel)
    (case N19 => first | k_is | exact rfl | kernel_rfl | decide +kernel)
    (case T19 => first | k_is | exact rfl | kernel_rfl | decide +kernel)
    (case M20 => first | k_is | exact rfl | kernel_rfl | decide +kernel)
    (case L20 => first | k_is | exact rfl | kernel_rfl | decide +kernel)
    (case D20 => first | k_is | exact rfl | kernel_rfl | decide +kernel)
    (case N20 => first | k_is | exact rfl | kernel_rfl | decide +kernel)
    (case T20 => first | k_is | exact rfl | kernel_rfl | decide +kernel)
    (case MlCh => first | k_is | exact rfl | kernel_rfl | decide +kernel)
    (case MlCu => first | k_is | exact rfl | kernel_rfl | decide +kernel)
    (case MlCw => first | k_is | exact rfl | kernel_rfl | decide +kernel)
    (case MlCn => first | k_is | exact rfl | kernel_rfl | decide +kernel)
    (case M21 => first | k_is | exact rfl | kernel_rfl | decide +kernel)
    (case L21 => first | k_is | exact rfl | kernel_rfl | decide +kernel)
    (case D21 => first | k_is | exact rfl | kernel_rfl | decide +kernel)
    (case N21 => first | k_is | exact rfl | kernel_rfl | decide +kernel)
    (case T21 => first | k_is | exact rfl | kernel_rfl | decide +kernel)
    (case H1 => first | k_is | exact rfl | kernel_rfl | decide +kernel)
    (case H2 => first | k_is | exact rfl | kernel_rfl | decide +kernel)
    (case M22 => first | k_is | exact rfl | kernel_rfl | decide +kernel)
    (case L22 => first | k_is | exact rfl | kernel_rfl | decide +kernel)
    (case D22 => first | k_is | exact rfl | kernel_rfl | decide +kernel)
    (case N22 => first | k_is | exact rfl | kernel_rfl | decide +kernel)
    (case T22 => first | k_is | exact rfl | kernel_rfl | decide +kernel)
    (case H3 => first | k_is | exact rfl | kernel_rfl | decide +kernel)
    (case u1C => first | k_is | exact rfl | kernel_rfl | decide +kernel)
    (case u2C => first | k_is | exact rfl | kernel_rfl | decide +kernel)
    (case u3C => first | k_is | exact rfl | kernel_rfl | decide +kernel)
    (case u4C => first | k_is | exact rfl | kernel_rfl | decide +kernel)
    (case u5C_kinds => first | k_is | exact rfl | kernel_rfl | decide +kernel)
    (case u5C_years => first | k_is | exact rfl | kernel_rfl | decide +kernel)
    (case u6C => first | k_is | exact rfl | kernel_rfl | decide +kernel)
    (case u7C => first | k_is | exact rfl | kernel_rfl | decide +kernel)
    (case u8C => first | k_is | exact rfl | kernel_rfl | decide +kernel)
    (case u9C => first | k_is | exact rfl | kernel_rfl | decide +kernel)
    (case u1CK => first | k_is | exact rfl | kernel_rfl | decide +kernel)
    (case u2CK => first | k_is | exact rfl | kernel_rfl | decide +kernel)
    (case u3CK => first | k_is | exact rfl | kernel_rfl | decide +kernel)
    (case u4CK => first | k_is | exact rfl | kernel_rfl | decide +kernel)
    (case u5CK_rows => first | k_is | exact rfl | kernel_rfl | decide +kernel)
    (case u5CK_names => first | k_is | exact rfl | kernel_rfl | decide +kernel)
    (case u5CK__arities => first | k_is | exact rfl | kernel_rfl | decide +kernel)
    (case u6CK => first | k_is | exact rfl | kernel_rfl | decide +kernel)
    (case u7CK => first | k_is | exact rfl | kernel_rfl | decide +kernel)
    (case u8CK => first | k_is | exact rfl | kernel_rfl | decide +kernel)
    (case u9CK => first | k_is | exact rfl | kernel_rfl | decide +kernel)
    (case u1CA => first | k_is | exact rfl | kernel_rfl | decide +kernel)
    (case u2CA => first | k_is | exact rfl | kernel_rfl | decide +kernel)
    (case u3CA => first | k_is | exact rfl | kernel_rfl | decide +kernel)
    (case u4CA => first | k_is | exact rfl | kernel_rfl | decide +kernel)
    (case u5CA_kinds => first | k_is | exact rfl | kernel_rfl | decide +kernel)
    (case u5CA_years => first | k_is | exact rfl | kernel_rfl | decide +kernel)
    (case u5CA_whole => first | k_is | exact rfl | kernel_rfl | decide +kernel)
    (case u6CA => first | k_is | exact rfl | kernel_rfl | decide +kernel)
    (case u7CA => first | k_is | exact rfl | kernel_rfl | decide +kernel)
    (case u8CA => first | k_is | exact rfl | kernel_rfl | decide +kernel)
    (case u9CA => first | k_is | exact rfl | kernel_rfl | decide +kernel)
    (case u1Ck => first | k_is | exact rfl | kernel_rfl | decide +kernel)
    (case u2Ck => first | k_is | exact rfl | kernel_rfl | decide +kernel)
    (case u3Ck => first | k_is | exact rfl | kernel_rfl | decide +kernel)
    (case u4Ck => first | k_is | exact rfl | kernel_rfl | decide +kernel)
    (case u5Ck_told => first | k_is | exact rfl | kernel_rfl | decide +kernel)
    (case u5Ck_names => first | k_is | exact rfl | kernel_rfl | decide +kernel)
    (case u6Ck => first | k_is | exact rfl | kernel_rfl | decide +kernel)
    (case u7Ck => first | k_is | exact rfl | kernel_rfl | decide +kernel)
    (case u8Ck => first | k_is | exact rfl | kernel_rfl | decide +kernel)
    (case u9Ck => first | k_is | exact rfl | kernel_rfl | decide +kernel)
    (case u1Ch => first | k_is | exact rfl | kernel_rfl | decide +kernel)
    (case u2Ch => first | k_is | exact rfl | kernel_rfl | decide +kernel)
    (case u3Ch => first | k_is | exact rfl | kernel_rfl | decide +kernel)
    (case u4Ch => first | k_is | exact rfl | kernel_rfl | decide +kernel)
    (case u5Ch_told => first | k_is | exact rfl | kernel_rfl | decide +kernel)
    (case u5Ch_names => first | k_is | exact rfl | kernel_rfl | decide +kernel)
    (case u6Ch => first | k_is | exact rfl | kernel_rfl | decide +kernel)
    (case u7Ch => first | k_is | exact rfl | kernel_rfl | decide +kernel)
    (case u8Ch => first | k_is | exact rfl | kernel_rfl | decide +kernel)
    (case u9Ch => first | k_is | exact rfl | kernel_rfl | decide +kernel)
    (case u1Cu => first | k_is | exact rfl | kernel_rfl | decide +kernel)
    (case u2Cu => first | k_is | exact rfl | kernel_rfl | decide +kernel)
    (case u3Cu => first | k_is | exact rfl | kernel_rfl | decide +kernel)
    (case u4Cu => first | k_is | exact rfl | kernel_rfl | decide +kernel)
    (case u5Cu_told => first | k_is | exact rfl | kernel_rfl | decide +kernel)
    (case u5Cu_names => first | k_is | exact rfl | kernel_rfl | decide +kernel)
    (case u6Cu => first | k_is | exact rfl | kernel_rfl | decide +kernel)
    (case u7Cu => first | k_is | exact rfl | kernel_rfl | decide +kernel)
    (case u8Cu => first | k_is | exact rfl | kernel_rfl | decide +kernel)
    (case u9Cu => first | k_is | exact rfl | kernel_rfl | decide +kernel)
    (case u1Cw => first | k_is | exact rfl | kernel_rfl | decide +kernel)
    (case u2Cw => first | k_is | exact rfl | kernel_rfl | decide +kernel)
    (case u3Cw => first | k_is | exact rfl | kernel_rfl | decide +kernel)
    (case u4Cw => first | k_is | exact rfl | kernel_rfl | decide +kernel)
    (case u5Cw_told => first | k_is | exact rfl | kernel_rfl | decide +kernel)
    (case u5Cw_names => first | k_is | exact rfl | kernel_rfl | decide +kernel)
    (case u6Cw => first | k_is | exact rfl | kernel_rfl | decide +kernel)
    (case u7Cw => first | k_is | exact rfl | kernel_rfl | decide +kernel)
    (case u8Cw => first | k_is | exact rfl | kernel_rfl | decide +kernel)
    (case u9Cw => first | k_is | exact rfl | kernel_rfl | decide +kernel)
    (case u1Cn => first | k_is | exact rfl | kernel_rfl | decide +kernel)
    (case u2Cn => first | k_is | exact rfl | kernel_rfl | decide +kernel)
    (case u3Cn => first | k_is | exact rfl | kernel_rfl | decide +kernel)
    (case u4Cn => first | k_is | exact rfl | kernel_rfl | decide +kernel)
    (case u5Cn_told => first | k_is | exact rfl | kernel_rfl | decide +kernel)
    (case u5Cn_names => first | k_is | exact rfl | kernel_rfl | decide +kernel)
    (case u6Cn => first | k_is | exact rfl | kernel_rfl | decide +kernel)
    (case u7Cn => first | k_is | exact rfl | kernel_rfl | decide +kernel)
    (case u8Cn => first | k_is | exact rfl | kernel_rfl | decide +kernel)
    (case u9Cn => first | k_is | exact rfl | kernel_rfl | decide +kernel)
    (case uACK => first | k_is | exact rfl | kernel_rfl | decide +kernel)
    (case wCK_NoneType => first | exact rfl | kernel_rfl | decide +kernel)
    (case wCK_list => first | exact rfl | kernel_rfl | decide +kernel)
    (case wCK_str => first | exact rfl | kernel_rfl | decide +kernel)
    (case wCK_tuple => first | exact rfl | kernel_rfl | decide +kernel)
    (case wECk => first | exact rfl | kernel_rfl | decide +kernel)
    (case wNCk => first | exact rfl | kernel_rfl | decide +kernel)
    (case wECh => first | exact rfl | kernel_rfl | decide +kernel)
    (case wNCh => first | exact rfl | kernel_rfl | decide +kernel)
    (case wECu => first | exact rfl | kernel_rfl | decide +kernel)
    (case wNCu => first | exact rfl | kernel_rfl | decide +kernel)
    (case wECw => first | exact rfl | kernel_rfl | decide +kernel)
    (case wNCw => first | exact rfl | kernel_rfl | decide +kernel)
    (case wECn => first | exact rfl | kernel_rfl | decide +kernel)
    (case wNCn => first | exact rfl | kernel_rfl | decide +kernel)
    (case q1 => first | k_is | exact rfl | kernel_rfl | decide +kernel)
    (case q2 => first | k_is | exact rfl | kernel_rfl | decide +kernel)
    (case nCB_year => first | k_is | exact rfl | kernel_rfl | decide +kernel)
    (case nCB_index => first | k_is | exact rfl | kernel_rfl | decide +kernel)
    (case nCB_what => first | k_is | exact rfl | kernel_rfl | decide +kernel)
    (case nCKB_index => first | k_is | exact rfl | kernel_rfl | decide +kernel)
    (case nCKB_what => first | k_is | exact rfl | kernel_rfl | decide +kernel)
    (case xCO => first | exact rfl | kernel_rfl | decide +kernel)
    (case eO1 => first | exact rfl | kernel_rfl | decide +kernel)
    (case eO2 => first | exact rfl | kernel_rfl | decide +kernel)
    (case eO3 => first | exact rfl | kernel_rfl | decide +kernel)
    (case eO4 => first | exact rfl | kernel_rfl | decide +kernel)
    (case y2 => first | k_is | exact rfl | kernel_rfl | decide +kernel)
    (case y3 => first | k_is | exact rfl | kernel_rfl | decide +kernel)
    (case y4 => first | k_is | exact rfl | kernel_rfl | decide +kernel)
    (case y5 => first | k_is | exact rfl | kernel_rfl | decide +kernel)
    (case y6 => first | k_is | exact rfl | kernel_rfl | decide +kernel)
    (case y7 => first | k_is | exact rfl | kernel_rfl | decide +kernel)
    (case y8 => first | k_is | exact rfl | kernel_rfl | decide +kernel)
    (case y9 => first | k_is | exact rfl | kernel_rfl | decide +kernel)
    (case o1CB => exact ⟨_, _, _, _, _, _, _, _, _, _, _, _, _, _, _, rfl, rfl⟩)
    (case o2CB => first | k_is | exact rfl | kernel_rfl | decide +kernel)
    (case o3CB => first | k_is | exact rfl | kernel_rfl | decide +kernel)
    (case o4CB => first | k_is | exact rfl | kernel_rfl | decide +kernel)
    (case o5CB => first | k_is | exact rfl | kernel_rfl | decide +kernel)
    (case o6CB => first | k_is | exact rfl | kernel_rfl | decide +kernel)
    (case o7CB => first | k_is | exact rfl | kernel_rfl | decide +kernel)
    (case o8CB => first | k_is | exact rfl | kernel_rfl | decide +kernel)
    (case o1CKB => exact ⟨_, _, _, _, _, _, _, _, _, _, _, _, _, _, _, rfl, rfl⟩)
    (case o2CKB => first | k_is | exact rfl | kernel_rfl | decide +kernel)
    (case o3CKB => first | k_is | exact rfl | kernel_rfl | decide +kernel)
    (case o4CKB => first | k_is | exact rfl | kernel_rfl | decide +kernel)
    (case o5CKB => first | k_is | exact rfl | kernel_rfl | decide +kernel)
    (case o6CKB => first | k_is | exact rfl | kernel_rfl | decide +kernel)
    (case o7CKB => first | k_is | exact rfl | kernel_rfl | decide +kernel)
    (case o8CKB => first | k_is | exact rfl | kernel_rfl | decide +kernel)
    (case z_int => first | k_is | exact rfl | kernel_rfl | decide +kernel)
    (case z_abs => first | k_is | exact rfl | kernel_rfl | decide +kernel)
    (case z_len => first | k_is | exact rfl | kernel_rfl | decide +kernel)
    (case z_enumerate => first | k_is | exact rfl | kernel_rfl | decide +kernel)
    (case z_range => first | k_is | exact rfl | kernel_rfl | decide +kernel)
    (case z_isinstance => first | k_is | exact rfl | kernel_rfl | decide +kernel)
    (case z_str => first | k_is | exact rfl | kernel_rfl | decide +kernel)
    (case z_bool => first | k_is | exact rfl | kernel_rfl | decide +kernel)
    (case z_list => first | k_is | exact rfl | kernel_rfl | decide +kernel)
    (case z_tuple => first | k_is | exact rfl | kernel_rfl | decide +kernel)
    (case z_sum => first | k_is | exact rfl | kernel_rfl | decide +kernel)
    (case z_min => first | k_is | exact rfl | kernel_rfl | decide +kernel)
    (case z_zip => first | k_is | exact rfl | kernel_rfl | decide +kernel)
    (case z_all => first | k_is | exact rfl | kernel_rfl | decide +kernel)

