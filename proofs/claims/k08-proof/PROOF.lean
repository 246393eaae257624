
import PyProof.Rows.All
import Wide.All
import OpenK.AllK
import Wide.FinOn
import HandS.ForMost
import HandS.Wide
import HandS.Codes
import HandS.Exc
import HandS.TryOnly
import HandS.ExcOwn
import HandS.WordsExc
import HandS.ExcInit
import HandS.ExcField
import HandS.IsInst
import HandS.StrMore
import HandS.Style
import KE.GoesMore
import KE.GoesEnum
import HandS.More
import HandS.Conv
import KE.KDictSum
import HandS.ExcIs
import HandS.TupAny
import HandS.OwnEq
import HandS.New0
import HandS.Deep
import HandS.Defaults
import HandS.Property
import HandS.Star
import KE.KStateDown
import HandS.Head0
import HandS.Head1
import HandS.Head2
import PySem.Challenge.RW_searchback_k08_pieces_and_clauses_made_a
set_option Elab.async false
set_option maxRecDepth 100000
namespace Kx
open PySem L2
def top (i : Nat) : Stmt := PySem.Challenge.pw_searchback_k08_pieces_and_clauses_made_a.main.body.getD i (.Pass ⟨0, 0, 0, 0⟩)
abbrev sBadCondition_init : Stmt := inClass (top 2) 0 -- BadCondition.__init__
abbrev sBadChange_init : Stmt := inClass (top 3) 0 -- BadChange.__init__
abbrev sBadClause_init : Stmt := inClass (top 4) 0 -- BadClause.__init__
abbrev sWhole : Stmt := top 7 -- is_whole(thing, low, high)
abbrev sLabel : Stmt := top 8 -- is_label(thing)
abbrev sSeq : Stmt := top 9 -- is_sequence(thing)
abbrev sIsSeatName : Stmt := top 15 -- is_seat_name(thing)
abbrev sCondition_eq : Stmt := inClass (top 16) 0 -- Condition.__eq__
abbrev sInRoom_init : Stmt := inClass (top 17) 0 -- InRoom.__init__
abbrev sInRoom_eq : Stmt := inClass (top 17) 1 -- InRoom.__eq__
abbrev sInRoom_opposite : Stmt := inClass (top 17) 2 -- InRoom.opposite
abbrev sNotInRoom_init : Stmt := inClass (top 18) 0 -- NotInRoom.__init__
abbrev sNotInRoom_eq : Stmt := inClass (top 18) 1 -- NotInRoom.__eq__
abbrev sNotInRoom_opposite : Stmt := inClass (top 18) 2 -- NotInRoom.opposite
abbrev sIs_init : Stmt := inClass (top 19) 0 -- Is.__init__
abbrev sIs_eq : Stmt := inClass (top 19) 1 -- Is.__eq__
abbrev sIs_opposite : Stmt := inClass (top 19) 2 -- Is.opposite
abbrev sIsNot_init : Stmt := inClass (top 20) 0 -- IsNot.__init__
abbrev sIsNot_eq : Stmt := inClass (top 20) 1 -- IsNot.__eq__
abbrev sIsNot_opposite : Stmt := inClass (top 20) 2 -- IsNot.opposite
abbrev sSamePerson_eq : Stmt := inClass (top 21) 0 -- SamePerson.__eq__
abbrev sSamePerson_opposite : Stmt := inClass (top 21) 1 -- SamePerson.opposite
abbrev sApart_eq : Stmt := inClass (top 22) 0 -- Apart.__eq__
abbrev sApart_opposite : Stmt := inClass (top 22) 1 -- Apart.opposite
abbrev sAtLeast_init : Stmt := inClass (top 23) 0 -- AtLeast.__init__
abbrev sAtLeast_eq : Stmt := inClass (top 23) 1 -- AtLeast.__eq__
abbrev sAtLeast_opposite : Stmt := inClass (top 23) 2 -- AtLeast.opposite
abbrev sBelow_init : Stmt := inClass (top 24) 0 -- Below.__init__
abbrev sBelow_eq : Stmt := inClass (top 24) 1 -- Below.__eq__
abbrev sBelow_opposite : Stmt := inClass (top 24) 2 -- Below.opposite
abbrev sChange_eq : Stmt := inClass (top 25) 0 -- Change.__eq__
abbrev sToRoom_init : Stmt := inClass (top 26) 0 -- ToRoom.__init__
abbrev sToRoom_eq : Stmt := inClass (top 26) 1 -- ToRoom.__eq__
abbrev sPut_init : Stmt := inClass (top 27) 0 -- Put.__init__
abbrev sPut_eq : Stmt := inClass (top 27) 1 -- Put.__eq__
abbrev sZero_init : Stmt := inClass (top 28) 0 -- Zero.__init__
abbrev sZero_eq : Stmt := inClass (top 28) 1 -- Zero.__eq__
abbrev sRun_init : Stmt := inClass (top 29) 0 -- Run.__init__
abbrev sRun_eq : Stmt := inClass (top 29) 1 -- Run.__eq__
abbrev sHalt_init : Stmt := inClass (top 30) 0 -- Halt.__init__
abbrev sHalt_eq : Stmt := inClass (top 30) 1 -- Halt.__eq__
abbrev sClause_init : Stmt := inClass (top 31) 0 -- Clause.__init__
abbrev sClause_eq : Stmt := inClass (top 31) 1 -- Clause.__eq__
abbrev sClause_arity : Stmt := inClass (top 31) 2 -- Clause.arity
abbrev sClause_with_condition : Stmt := inClass (top 31) 3 -- Clause.with_condition
abbrev sClause_split : Stmt := inClass (top 31) 4 -- Clause.split
abbrev sSeatFault : Stmt := top 32 -- _seat_fault(seat, what)
abbrev sNumberFault : Stmt := top 33 -- _number_fault(clock, number)
abbrev sCheckConditions : Stmt := top 34 -- _check_conditions(conditions)
abbrev sCheckChanges : Stmt := top 35 -- _check_changes(changes)
abbrev sChangedBy : Stmt := top 36 -- _changed_by(change)
abbrev sMix : Stmt := top 38 -- _law_mix(_law_number_here, _law_turn)
abbrev sHand : Stmt := top 39 -- _law_hand(_law_script)
abbrev sDraw : Stmt := top 40 -- _law_draw(_law_hand_here, _law_many)
abbrev sOne : Stmt := top 41 -- _law_one(_law_hand_here, _law_rows)
abbrev sLPiece : Stmt := top 42 -- _law_piece(_law_row_here)
abbrev sLLetters : Stmt := top 43 -- _law_letters(_law_hand_here)
abbrev sLWhole : Stmt := top 44 -- _law_whole(_law_thing_here)
abbrev sLLabel : Stmt := top 45 -- _law_label(_law_thing_here)
abbrev sLThing : Stmt := top 46 -- _law_thing(_law_hand_here)
abbrev sLNumber : Stmt := top 47 -- _law_number(_law_hand_here)
abbrev sLWords : Stmt := top 48 -- _law_words()
abbrev sLPieceWord : Stmt := top 49 -- _law_piece_word(_law_row_here, _law_names)
abbrev sLTryPiece : Stmt := top 50 -- _law_try_piece(_law_row_here)
abbrev sLClass : Stmt := top 51 -- _law_class(_law_piece_here)
abbrev sLRow : Stmt := top 52 -- _law_row(_law_piece_here)
abbrev sLPieceRight : Stmt := top 53 -- _law_piece_right(_law_row_here, _law_piece_here)
abbrev sLDrawnPiece : Stmt := top 54 -- _law_drawn_piece(_law_hand_here)
abbrev sLFew : Stmt := top 55 -- _law_few(_law_hand_here, _law_change)
abbrev sLClauseParts : Stmt := top 56 -- _law_clause_parts(_law_hand_here)
abbrev sLChangedThing : Stmt := top 57 -- _law_changed_thing(_law_row_here)
abbrev sLClauseWord : Stmt := top 58 -- _law_clause_word(_law_parts)
abbrev sLTryClause : Stmt := top 59 -- _law_try_clause(_law_kind, _law_conditions, _law_changes)
abbrev sLPieces : Stmt := top 60 -- _law_pieces(_law_rows)
abbrev sLClauseIs : Stmt := top 61 -- _law_clause_is(_law_told, _law_parts)
abbrev sLMore : Stmt := top 62 -- _law_more(_law_clause, _law_condition, _law_split)
abbrev sLSplits : Stmt := top 63 -- _law_splits(_law_hand_here, _law_clause, _law_parts)
abbrev sLaw : Stmt := top 64 -- law(_law_script)
theorem us1 {us : List Value} (h : us.length = 1) : ∃ a, us = [a] := List.length_eq_one_iff.mp h
theorem us2 {us : List Value} (h : us.length = 2) : ∃ a b, us = [a, b] := by
  obtain ⟨a, us, rfl⟩ := List.exists_cons_of_length_eq_add_one h
  obtain ⟨b, rfl⟩ := us1 (Nat.succ.inj h)
  exact ⟨a, b, rfl⟩
theorem us3 {us : List Value} (h : us.length = 3) : ∃ a b c, us = [a, b, c] := by
  obtain ⟨a, us, rfl⟩ := List.exists_cons_of_length_eq_add_one h
  obtain ⟨b, c, rfl⟩ := us2 (Nat.succ.inj h)
  exact ⟨a, b, c, rfl⟩
end Kx

set_option maxHeartbeats 4000000
namespace Kx
open PySem L2
section
variable {P : Program} {w : World} {K : PySem.W.Frag} {mg : Str → Option Value} {base : Heap}
structure Bl (mg : Str → Option Value) : Prop where
  int : mg "int" = none
  abs : mg "abs" = none
  len : mg "len" = none
  enumerate : mg "enumerate" = none
  range : mg "range" = none
def spMix : Sp := fun vs H Q _ => ∃ a b : Int, vs = [.int a, .int b] ∧ ∀ z : Int, Q (.int z) H
structure Has (P : Program) (w : World) (K : PySem.W.Frag) (mg : Str → Option Value) (base : Heap) (x : Str) (k : Nat) (ps : List Str) (sp : Sp) (f : Addr) (fd : FuncData) : Prop where
  G : FnOk P w K mg base CX0 k f fd ps sp
  m : mg x = some (.ref f)
  kp : PySem.W.keepIn K (.ref f) = true
  b : Binds K fd ps []
def HasF (P : Program) (w : World) (K : PySem.W.Frag) (mg : Str → Option Value) (base : Heap) (x : Str) (k : Nat) (ps : List Str) (sp : Sp) : Prop := ∃ f fd, Has P w K mg base x k ps sp f fd
theorem scMix : FnScope ["_law_number_here", "_law_turn", "_law_once", "_law_twice"] ["_law_number_here", "_law_turn"] (defScope sMix) := ⟨rfl, rfl, rfl, by decide +kernel, rfl, by decide +kernel, by decide +kernel⟩
theorem small31 {z : Int} {m : Int} (h : 0 < m) (h' : m ≤ 2147483648) : CMul (z % m) (z % m) := by
  have h1 := Int.emod_nonneg z (show m ≠ 0 by omega)
  have h2 := Int.emod_lt_of_pos z h
  exact .inl ⟨by omega, by omega⟩
theorem ok_mix {f : Addr} {fd : FuncData} (F : Fun K "_law_mix" "_law_mix" sMix f fd) (m : mg "_law_mix" = some (.ref f)) (T : Bl mg) : HasF P w K mg base "_law_mix" 1 ["_law_number_here", "_law_turn"] spMix := by
  refine ⟨f, fd, ?_, m, F.kp, F.binds fun _ _ _ _ _ _ us hl => by obtain ⟨_, _, rfl⟩ := us2 hl; exact rfl⟩
  refine F.ok scMix (fun vs H Q E h => ?_) (fun cdv A outer s H vs Q E hr h => ?_)
  · obtain ⟨a, b, rfl, _⟩ := h
    rfl
  · obtain ⟨a, b, rfl, k⟩ := h
    refine ⟨_, pss_cons (ps_set (i := 2) scMix.nd rfl (Or.inl rfl) (pe_op op_mod (pe_callTy call_int1 (by rfl) T.int (by decide +kernel) (pa_cons (pe_op op_add (pe_op op_add (pe_op op_mul (pv 0) pe_int) (pe_op op_mul (pv 1) pe_int)) pe_int) pa_nil)) pe_int))
      (pss_cons (ps_set (i := 3) scMix.nd rfl (Or.inl rfl) (pe_op op_mod (pe_callTy call_int1 (by rfl) T.int (by decide +kernel) (pa_cons (pe_op op_add (pe_op op_add (pe_op op_mul (pv 2) (pv 2)) (pe_op op_mul (pe_op op_fdiv (pv 2) pe_int) pe_int)) (pe_op op_mul (pv 1) pe_int)) pa_nil)) pe_int))
      (pss_one (ps_ret (pe_op op_fdiv (pe_op op_mod (pe_callTy call_int1 (by rfl) T.int (by decide +kernel) (pa_cons (pe_op op_add (pe_op op_fdiv (pe_op op_mul (pv 3) (pv 3)) pe_int) (pv 2)) pa_nil)) pe_int) pe_int)))), ?_⟩
    refine ⟨_, rfl, _, _, rfl, rfl, .inr ⟨by decide, by decide⟩, _, rfl, _, _, rfl, rfl, .inr ⟨by decide, by decide⟩, _, _, rfl, rfl, _, _, rfl, rfl, .inl ⟨_, rfl, _, _, rfl, rfl, (by show (0 : Int) < _; decide), ?_⟩⟩
    refine ⟨_, rfl, _, rfl, _, _, rfl, rfl, small31 (by decide) (by decide), _, rfl, _, _, rfl, rfl, ⟨by decide, by decide⟩, _, _, rfl, rfl, .inr ⟨by decide, by decide⟩, _, _, rfl, rfl, _, rfl, _, _, rfl, rfl, .inr ⟨by decide, by decide⟩, _, _, rfl, rfl, .inl ⟨_, rfl, _, _, rfl, rfl, (by show (0 : Int) < _; decide), ?_⟩⟩
    refine ⟨_, rfl, _, rfl, _, _, rfl, rfl, small31 (by decide) (by decide), _, _, rfl, rfl, ⟨by decide, by decide⟩, _, rfl, _, _, rfl, rfl, .inl ⟨_, rfl, _, _, rfl, rfl, (by show (0 : Int) < _; decide), _, _, rfl, rfl, ⟨by decide, by decide⟩, ?_⟩⟩
    exact k _
/-- the hand at p: what is left of the script, and three counters -/
def HandAt (H : Hp) (p q : Addr) : Prop := ∃ (cs : List Int) (a : Nat) (b c : Int), H p = some (.lst [.ref q, .int a, .int b, .int c]) ∧ H q = some (.lst (cs.map V.int))
/-- all but p is as it was -/
def Keep (H H' : Hp) (p : Addr) : Prop := ∀ b o, H b = some o → b ≠ p → H' b = some o
theorem Keep.refl {H : Hp} {p : Addr} : Keep H H p := fun _ _ h _ => h
theorem Keep.trans {H H1 H2 : Hp} {p : Addr} (a : Keep H H1 p) (b : Keep H1 H2 p) : Keep H H2 p := fun c o h e => b c o (a c o h e) e
theorem Keep.upd {H H1 : Hp} {p : Addr} {o : HO} (a : Keep H H1 p) : Keep H (upd H1 p o) p := fun c u h e => by rw [upd_ne e]; exact a c u h e
theorem HandAt.ne {H : Hp} {p q : Addr} {xs ys : List V} (h : H p = some (.lst (.ref q :: xs))) {cs : List Int} (h' : H q = some (.lst (cs.map V.int))) : q ≠ p := by
  intro e
  subst e
  rw [h] at h'
  cases cs with
  | nil => exact nomatch h'
  | cons c cs => exact nomatch h'
def spDraw : Sp := fun vs H Q _ => ∃ (p q : Addr) (m : Int), vs = [.ref p, .int m] ∧ HandAt H p q ∧ 0 < m ∧ m.natAbs < 2 ^ 200 ∧
  ∀ (z : Int) (H' : Hp), 0 ≤ z → z < m → HandAt H' p q → Keep H H' p → Q (.int z) H'
theorem scDraw : FnScope ["_law_hand_here", "_law_many", "_law_cell", "_law_rest"] ["_law_hand_here", "_law_many"] (defScope sDraw) := ⟨rfl, rfl, rfl, by decide +kernel, rfl, by decide +kernel, by decide +kernel⟩
theorem ok_draw {f : Addr} {fd : FuncData} (F : Fun K "_law_draw" "_law_draw" sDraw f fd) (m : mg "_law_draw" = some (.ref f)) (T : Bl mg) (M : HasF P w K mg base "_law_mix" 1 ["_law_number_here", "_law_turn"] spMix) : HasF P w K mg base "_law_draw" 2 ["_law_hand_here", "_law_many"] spDraw := by
  refine ⟨f, fd, ?_, m, F.kp, F.binds fun _ _ _ _ _ _ us hl => by obtain ⟨_, _, rfl⟩ := us2 hl; exact rfl⟩
  obtain ⟨f1, fd1, M⟩ := M
  refine F.ok scDraw (fun vs H Q E h => ?_) (fun cdv A outer s H vs Q E hr h => ?_)
  · obtain ⟨a, b, c, rfl, _⟩ := h
    rfl
  · obtain ⟨p, q, m, rfl, ⟨cs, a, b, c, hp, hq⟩, m0, m1, k⟩ := h
    have nqp : q ≠ p := HandAt.ne (ys := []) hp hq
    refine ⟨_, C8.pss_cut (ps_if (PW.pt (pw_and (pt_cmpR op_eq (pe_ix ix_list (pv 0) pe_int (fun _ _ => rfl)) pe_int (nomark _)) (pw_and1 (pt_cmpR op_lt (pe_ix ix_list (pv 0) pe_int (fun _ _ => rfl)) (pe_callB call_len_seq (by rfl) T.len PySem.boot_len (pa_cons (pe_ix ix_list (pv 0) pe_int (fun _ _ => rfl)) pa_nil)) (nomark _)))))
        (pss_cons (ps_set (i := 2) scDraw.nd rfl (Or.inl rfl) (pe_ix ix_list (pe_ix ix_list (pv 0) pe_int (fun _ _ => rfl)) (pe_ix ix_list (pv 0) pe_int (fun _ _ => rfl)) (fun _ _ => rfl)))
        (pss_cons (ps_asg (pe_op op_add (pe_ix ix_list (pv 0) pe_int (fun _ _ => rfl)) pe_int) (pg_sub (pv 0) pe_int set_list))
        (pss_cons (ps_if (pt_cmpR op_lt (pv 2) (pe_op op_pow pe_int pe_int) (nomark _)) (pss_one (ps_ret (pe_op op_mod (pe_callTy call_int1 (by rfl) T.int (by decide +kernel) (pa_cons (pe_call M.G hr (by rfl) M.m M.kp M.b .nil pass0 (pa_cons (pe_op op_mod (pe_callTy call_int1 (by rfl) T.int (by decide +kernel) (pa_cons (pv 2) pa_nil)) pe_int) (pa_cons (pe_ix ix_list (pv 0) pe_int (fun _ _ => rfl)) pa_nil))) pa_nil)) (pv 1)))) pss_nil)
        (pss_one (ps_asg (pv 2) (pg_sub (pv 0) pe_int set_list)))))) pss_nil)
      (pss_cons (ps_if (pt_cmpR op_gt (pe_ix ix_list (pv 0) pe_int (fun _ _ => rfl)) pe_int (nomark _))
        (pss_cons (ps_set (i := 3) scDraw.nd rfl (Or.inl rfl) (pe_ix ix_list (pv 0) pe_int (fun _ _ => rfl)))
        (pss_cons (ps_asg (pe_op op_fdivW (pv 3) (pv 1)) (pg_sub (pv 0) pe_int set_list))
        (pss_one (ps_ret (pe_op op_mod (pe_callTy call_int1 (by rfl) T.int (by decide +kernel) (pa_cons (pv 3) pa_nil)) (pv 1)))))) pss_nil)
      (pss_cons (ps_asg (pe_op op_mod (pe_callTy call_int1 (by rfl) T.int (by decide +kernel) (pa_cons (pe_op op_add (pe_ix ix_list (pv 0) pe_int (fun _ _ => rfl)) pe_int) pa_nil)) pe_int) (pg_sub (pv 0) pe_int set_list))
      (pss_one (ps_ret (pe_op op_mod (pe_callTy call_int1 (by rfl) T.int (by decide +kernel) (pa_cons (pe_call M.G hr (by rfl) M.m M.kp M.b .nil pass0 (pa_cons (pe_ix ix_list (pv 0) pe_int (fun _ _ => rfl)) (pa_cons (pe_ix ix_list (pv 0) pe_int (fun _ _ => rfl)) pa_nil))) pa_nil)) (pv 1)))))), ?_⟩
    refine ⟨fun σ H1 => ∃ (x y : Option V) (a : Nat) (b c : Int), σ = [some (.ref p), some (.int m), x, y] ∧ H1 p = some (.lst [.ref q, .int a, .int b, .int c]) ∧ H1 q = some (.lst (cs.map V.int)) ∧ Keep H H1 p, ?_, ?_⟩
    · refine ⟨_, rfl, p, _, _, _, rfl, rfl, SqL.of hp, by rfl, rfl, _, rfl, ?_⟩
      refine ite2 (fun _ => ?_) (fun _ => ?_)
      · refine ⟨_, rfl, p, _, _, _, rfl, rfl, SqL.of hp, by rfl, _, rfl, p, _, _, _, rfl, rfl, SqL.of hp, by rfl, q, _, rfl, .inl (SqL.of hq), _, _, rfl, rfl, _, rfl, ?_⟩
        refine ite2 (fun h1 => ?_) (fun _ => ?_)
        · have h1 : (a : Int) < ((cs.map V.int).length : Nat) := of_decide_eq_true h1
          rw [List.length_map] at h1
          have h2 : a < cs.length := by omega
          have h3 : (cs.map V.int)[a]? = some (V.int cs[a]) := by rw [List.getElem?_map, List.getElem?_eq_getElem h2]; rfl
          have hq' : ∀ o, (upd H p o) q = some (.lst (cs.map V.int)) := fun o => by rw [upd_ne nqp]; exact hq
          refine ⟨_, rfl, p, _, _, _, rfl, rfl, SqL.of hp, by rfl, _, rfl, p, _, _, _, rfl, rfl, SqL.of hp, by rfl, q, _, _, _, rfl, rfl, SqL.of hq, atI_nat h3, ?_⟩
          refine ⟨_, rfl, p, _, _, _, rfl, rfl, SqL.of hp, by rfl, _, _, rfl, rfl, _, rfl, p, _, _, _, rfl, rfl, hp, by rfl, ?_⟩
          refine ⟨_, rfl, _, _, rfl, rfl, ⟨by decide, by decide, by decide⟩, _, _, rfl, rfl, _, rfl, ?_⟩
          refine ite2 (fun _ => ?_) (fun _ => ?_)
          · refine ⟨_, rfl, .inl ⟨_, rfl, _, _, rfl, rfl, (by show (0 : Int) < _; decide), _, rfl, p, _, _, _, rfl, rfl, SqL.of upd_same, by rfl, _, _, rfl, fun z => .inl ⟨_, rfl, _, rfl, _, _, rfl, rfl, m0, ?_⟩⟩⟩
            exact k _ _ (Int.emod_nonneg _ (by omega)) (Int.emod_lt_of_pos _ m0) ⟨cs, a + 1, b, c, upd_same, hq' _⟩ Keep.refl.upd
          · refine ⟨_, rfl, _, rfl, p, _, _, _, rfl, rfl, upd_same, by rfl, ?_⟩
            refine ⟨_, _, a + 1, cs[a], c, rfl, upd_same, ?_, Keep.refl.upd.upd⟩
            rw [upd_upd]
            exact hq' _
        · exact ⟨_, _, a, b, c, rfl, hp, hq, Keep.refl⟩
      · exact ⟨_, _, a, b, c, rfl, hp, hq, Keep.refl⟩
    · rintro σ H1 ⟨x, y, a, b, c, rfl, hp, hq, kp⟩
      have hq' : ∀ o, (upd H1 p o) q = some (.lst (cs.map V.int)) := fun o => by rw [upd_ne nqp]; exact hq
      refine ⟨_, rfl, p, _, _, _, rfl, rfl, SqL.of hp, by rfl, _, _, rfl, rfl, _, rfl, ?_⟩
      refine ite2 (fun _ => ?_) (fun _ => ?_)
      · refine ⟨_, rfl, p, _, _, _, rfl, rfl, SqL.of hp, by rfl, _, rfl, _, rfl, _, _, rfl, rfl, wide_div m0 m1 (by decide) (by decide), _, rfl, p, _, _, _, rfl, rfl, hp, by rfl, ?_⟩
        refine ⟨_, rfl, .inl ⟨_, rfl, _, rfl, _, _, rfl, rfl, m0, ?_⟩⟩
        exact k _ _ (Int.emod_nonneg _ (by omega)) (Int.emod_lt_of_pos _ m0) ⟨cs, a, _, c, upd_same, hq' _⟩ kp.upd
      · refine ⟨_, rfl, p, _, _, _, rfl, rfl, SqL.of hp, by rfl, _, _, rfl, rfl, .inl ⟨_, rfl, _, _, rfl, rfl, (by show (0 : Int) < _; decide), _, rfl, p, _, _, _, rfl, rfl, hp, by rfl, ?_⟩⟩
        refine ⟨_, rfl, p, _, _, _, rfl, rfl, SqL.of upd_same, by rfl, _, rfl, p, _, _, _, rfl, rfl, SqL.of upd_same, by rfl, _, _, rfl, fun z => .inl ⟨_, rfl, _, rfl, _, _, rfl, rfl, m0, ?_⟩⟩
        exact k _ _ (Int.emod_nonneg _ (by omega)) (Int.emod_lt_of_pos _ m0) ⟨cs, a, _, _, upd_same, hq' _⟩ kp.upd
/-- over enumerate(list), the list standing still -/
theorem for_enum {K : PySem.W.Frag} {a : Addr} {xs : List V} {g : TG} {tb : TS} {D : Ends} {σ : St} {H : Hp} (W : Nat → St → Hp → Prop) (start : W 0 σ H) (still : ∀ i σ H, W i σ H → SqL K H a xs)
    (turn : ∀ i x σ H T, xs[i]? = some x → W i σ H → H T = none → g (.ref T) σ (upd H T (.tup [.int (i : Nat), x])) fun σ2 H2 => tb { D with nx := W (i + 1), ct := W (i + 1), bk := D.nx } σ2 H2) (after : ∀ σ H, W xs.length σ H → D.nx σ H) :
    ∃ U : Nat → Nat → St → Hp → Prop, (∃ m, U 0 m σ H) ∧ ∀ i m σ H, U i m σ H → ((Ite K a).stop i H ∧ D.nx σ H) ∨ ((Ite K a).go i H ∧ ∃ N : St → Hp → Prop, (∀ σ' H', N σ' H' → ∃ m', m' < m ∧ U (i + 1) m' σ' H') ∧
      ∀ x H', (Ite K a).yld i H x H' → g x σ H' fun σ2 H2 => tb { D with nx := N, ct := N, bk := D.nx } σ2 H2) := by
  refine ⟨fun i m σ H => m + i = xs.length ∧ W i σ H, ⟨xs.length, by omega, start⟩, fun i m σ H u => ?_⟩
  obtain ⟨e, u⟩ := u
  cases m with
  | zero =>
    have e : i = xs.length := by omega
    subst e
    exact .inl ⟨⟨xs, still _ _ _ u, Nat.le_refl _⟩, after _ _ u⟩
  | succ m =>
    have lt : i < xs.length := by omega
    refine .inr ⟨⟨xs, xs[i], still _ _ _ u, List.getElem?_eq_getElem lt⟩, W (i + 1), fun σ' H' u' => ⟨m, Nat.lt_succ_self _, by omega, u'⟩, fun x H' y => ?_⟩
    obtain ⟨T, z, rfl, free, rfl, same⟩ := y
    exact turn i z σ H T (same xs (still _ _ _ u)) u free
def spHand (K : PySem.W.Frag) : Sp := fun vs H Q _ => ∃ (a : Addr) (ns : List Int), vs = [.ref a] ∧ SqL K H a (ns.map V.int) ∧ ns.length ≤ 63 ∧ ∀ (p q : Addr) (H' : Hp), H p = none → H q = none → q ≠ p → HandAt H' p q → Same H H' → Q (.ref p) H'
theorem sameUpd {H H1 : Hp} {p : Addr} {o : HO} (s : Same H H1) (h : H1 p = none) : Same H (upd H1 p o) := fun b u e => by
  have e1 := s b u e
  rw [upd_ne (ne_of_none e1 h)]
  exact e1
theorem item_int {ns : List Int} {i : Nat} {y : V} (h : (ns.map V.int)[i]? = some y) : ∃ z, y = V.int z ∧ ns[i]? = some z := by
  rw [List.getElem?_map] at h
  cases e : ns[i]? with
  | none => rw [e] at h; cases h
  | some z => rw [e] at h; exact ⟨z, (Option.some.inj h).symm, rfl⟩
theorem scHand : FnScope ["_law_script", "_law_total", "_law_k", "_law_cell"] ["_law_script"] (defScope sHand) := ⟨rfl, rfl, rfl, by decide +kernel, rfl, by decide +kernel, by decide +kernel⟩
theorem ok_hand {f : Addr} {fd : FuncData} (F : Fun K "_law_hand" "_law_hand" sHand f fd) (m : mg "_law_hand" = some (.ref f)) (T : Bl mg) : HasF P w K mg base "_law_hand" 1 ["_law_script"] (spHand K) := by
  refine ⟨f, fd, ?_, m, F.kp, F.binds fun _ _ _ _ _ _ us hl => by obtain ⟨_, rfl⟩ := us1 hl; exact rfl⟩
  refine F.ok scHand (fun vs H Q E h => ?_) (fun cdv A outer s H vs Q E hr h => ?_)
  · obtain ⟨a, b, rfl, _⟩ := h
    rfl
  · obtain ⟨a, ns, rfl, hS, hl, k⟩ := h
    refine ⟨_, pss_cons (ps_set (i := 1) scHand.nd rfl (Or.inl rfl) pe_int)
      (pss_cons (ps_for PassesOwn.never rfl (pi_enum (by rfl) T.enumerate (pa_cons (pv 0) pa_nil)) (pg_tup rfl (pgs_cons (pg_name (i := 2) scHand.nd rfl (.inl rfl)) (pgs_cons (pg_name (i := 3) scHand.nd rfl (.inl rfl)) pgs_nil)))
        (pss_one (ps_set (i := 1) scHand.nd rfl (Or.inl rfl) (pe_op op_mod (pe_callTy call_int1 (by rfl) T.int (by decide +kernel) (pa_cons (pe_op op_add (pe_op op_mul (pv 1) pe_int) (pe_op op_mul (pe_callTy call_int1 (by rfl) T.int (by decide +kernel) (pa_cons (pv 3) pa_nil)) (pe_op op_add (pv 2) pe_int))) pa_nil)) pe_int))))
      (pss_one (ps_ret (pe_lst (pa_cons (pe_lc (own := [("_law_cell", 3)]) (g := gName 3) (tt := tYes) (by rfl) scHand.nd (pi_list (pv 0)) (blkOk_by (own := [("_law_cell", 3)]) (N := ["_law_script", "_law_total", "_law_k", "_law_cell"]) (sc := defScope sHand) (by decide +kernel))
          (fun _ _ _ _ _ => pg_name (i := 3) scHand.nd rfl (Or.inl rfl)) (fun _ _ _ _ _ => pts_nil) (fun _ _ _ _ _ => (pe_callB call_abs (by rfl) T.abs (by decide +kernel) (pa_cons (pe_callTy call_int1 (by rfl) T.int (by decide +kernel) (pa_cons (pv 3) pa_nil)) pa_nil))))
        (pa_cons pe_int (pa_cons pe_int (pa_cons (pv 1) pa_nil)))))))), ?_⟩
    refine ⟨_, rfl, a, _, rfl, hS, for_enum (K := K) (a := a) (xs := ns.map V.int) (fun i σ H2 => ∃ (t : Int) (x y : Option V), σ = [some (.ref a), some (.int t), x, y] ∧ Same H H2 ∧ True) ⟨_, _, _, rfl, Same.refl _, trivial⟩ (fun i σ H2 ⟨_, _, _, _, s2, _⟩ => s2.seq hS) ?_ ?_⟩
    · rintro i x σ H2 T hi ⟨t, c, d, rfl, s2, _⟩ free
      obtain ⟨z, rfl, hz⟩ := item_int hi
      have hlt : i < ns.length := (List.getElem?_eq_some_iff.mp hz).1
      refine ⟨T, _, rfl, SqT.of upd_same, rfl, _, _, rfl, _, _, rfl, rfl, ?_⟩
      refine ⟨_, rfl, _, _, rfl, rfl, .inr ⟨by decide, by decide⟩, _, rfl, .inl ⟨_, rfl, _, rfl, _, _, rfl, rfl, _, _, rfl, rfl, .inr ⟨by omega, by omega⟩, _, _, rfl, rfl, .inl ⟨_, rfl, _, _, rfl, rfl, (by show (0 : Int) < _; decide), ?_⟩⟩⟩
      exact ⟨_, _, _, rfl, sameUpd s2 free, trivial⟩
    · rintro σ H2 ⟨t, c, d, rfl, s2, _⟩
      have q : ∀ (b : Int) (l : List Int), (l ++ [b]).map V.int = l.map V.int ++ [V.int b] := fun b l => by rw [List.map_append]; rfl
      refine ⟨_, rfl, a, rfl, ⟨_, s2.seq hS⟩, fun D hD => lc_list (K := K) (a := a) (xs := ns.map V.int) (fun i H3 => Same H H3 ∧ ∃ cs : List Int, cs.length = i ∧ H3 D = some (.lst (cs.map V.int))) ⟨sameUpd s2 hD, [], rfl, upd_same⟩ (fun i H3 _ w => w.1.seq hS) ?_ ?_⟩
      · rintro i y H3 hi ⟨s3, cs, hc, hd⟩
        obtain ⟨z, rfl, hz⟩ := item_int hi
        have hlt : i < ns.length := (List.getElem?_eq_some_iff.mp hz).1
        refine ⟨rfl, ?_⟩
        refine ⟨_, rfl, .inl ⟨_, rfl, _, rfl, cs.map V.int, hd, small1000 (by rw [List.length_map]; omega), ?_⟩⟩
        have e : H D = none := s2.free hD
        refine ⟨fun b u e' => ?_, cs ++ [_], by rw [List.length_append, hc]; rfl, by rw [q]; exact upd_same⟩
        rw [upd_ne (ne_of_none e' e)]
        exact s3 b u e'
      · rintro H3 ⟨s3, cs, hc, hd⟩
        refine ⟨_, rfl, (by show 4 ≤ sizeLine; decide), fun p hp => ?_⟩
        have np : p ≠ D := fun e => by rw [e, hd] at hp; cases hp
        exact k p D _ (s3.free hp) (s2.free hD) np.symm ⟨cs, 0, 0, _, upd_same, by rw [upd_ne np.symm]; exact hd⟩ (sameUpd s3 hp)
/-- every sign a letter from a to z -/
def Low (z : Str) : Prop := ∀ c ∈ z.cps.toList, 97 ≤ c ∧ c ≤ 122
theorem abc_at : ∀ n : Fin 26, (Str.ofString "abcdefghijklmnopqrstuvwxyz").cps.toList[n.1]? = some (97 + n.1) := by decide +kernel
theorem abc_ix {z : Int} (h : 0 ≤ z) (h' : z < 26) : atI (Str.ofString "abcdefghijklmnopqrstuvwxyz").cps.toList z = some (97 + z.toNat) := by
  obtain ⟨n, rfl⟩ : ∃ n : Nat, z = n := ⟨z.toNat, by omega⟩
  exact atI_nat (abc_at ⟨n, by omega⟩)
theorem len_app (a b : Str) : (a ++ b).length = a.length + b.length := Array.size_append
theorem cps_app (a b : Str) : (a ++ b).cps.toList = a.cps.toList ++ b.cps.toList := Array.toList_append
theorem Low.app {a b : Str} (h : Low a) (h' : Low b) : Low (a ++ b) := fun c hc => by
  rw [cps_app] at hc
  rcases List.mem_append.mp hc with e | e
  · exact h c e
  · exact h' c e
theorem Low.one {n : Nat} (h : n < 26) : Low ⟨#[97 + n]⟩ := fun c hc => by
  have e : c = 97 + n := by simpa using hc
  omega
theorem Low.nil : Low (Str.ofString "") := fun c hc => by
  have e : (Str.ofString "").cps.toList = [] := by decide +kernel
  rw [e] at hc
  cases hc
def spOne : Sp := fun vs H Q _ => ∃ (p q r : Addr) (xs : List V), vs = [.ref p, .ref r] ∧ HandAt H p q ∧ H r = some (.lst xs) ∧ r ≠ p ∧ 0 < xs.length ∧ xs.length ≤ 1000 ∧
  ∀ (x : V) (H' : Hp), x ∈ xs → HandAt H' p q → Keep H H' p → Q x H'
theorem scOne : FnScope ["_law_hand_here", "_law_rows"] ["_law_hand_here", "_law_rows"] (defScope sOne) := ⟨rfl, rfl, rfl, by decide +kernel, rfl, by decide +kernel, by decide +kernel⟩
theorem ok_one {f : Addr} {fd : FuncData} (F : Fun K "_law_one" "_law_one" sOne f fd) (m : mg "_law_one" = some (.ref f)) (T : Bl mg) (D : HasF P w K mg base "_law_draw" 2 ["_law_hand_here", "_law_many"] spDraw) : HasF P w K mg base "_law_one" 3 ["_law_hand_here", "_law_rows"] spOne := by
  refine ⟨f, fd, ?_, m, F.kp, F.binds fun _ _ _ _ _ _ us hl => by obtain ⟨_, _, rfl⟩ := us2 hl; exact rfl⟩
  obtain ⟨f1, fd1, D⟩ := D
  refine F.ok scOne (fun vs H Q E h => ?_) (fun cdv A outer s H vs Q E hr h => ?_)
  · obtain ⟨a, b, c, d, rfl, _⟩ := h
    rfl
  · obtain ⟨p, q, r, xs, rfl, hp, hx, ne, h0, h9, k⟩ := h
    refine ⟨_, pss_one (ps_ret (pe_ix ix_list (pv 1) (pe_call D.G hr (by rfl) D.m D.kp D.b .nil pass0 (pa_cons (pv 0) (pa_cons (pe_callB call_len_seq (by rfl) T.len PySem.boot_len (pa_cons (pv 1) pa_nil)) pa_nil))) (fun _ _ => rfl))), ?_⟩
    have hz : xs.length < 2 ^ 200 := Nat.lt_of_le_of_lt h9 (by decide)
    refine ⟨_, rfl, _, rfl, _, rfl, r, _, rfl, .inl (SqL.of hx), p, q, _, rfl, hp, by omega, by rw [Int.natAbs_natCast]; exact hz, fun z H1 z0 z1 hp1 k1 => ?_⟩
    obtain ⟨n, rfl⟩ : ∃ n : Nat, z = n := ⟨z.toNat, by omega⟩
    have lt : n < xs.length := by omega
    exact ⟨r, xs, n, _, rfl, rfl, SqL.of (k1 r _ hx ne), atI_nat (List.getElem?_eq_getElem lt), k _ _ (List.getElem_mem lt) hp1 k1⟩
/-- the kinds of things that are asked -/
inductive Kd (H : Hp) : V → String → Prop where
  | non : Kd H .non "NoneType"
  | bl (b : Bool) : Kd H (.bl b) "bool"
  | int (i : Int) : Kd H (.int i) "int"
  | str (z : Str) : Kd H (.str z) "str"
  | lst (a : Addr) (xs : List V) (h : H a = some (.lst xs)) : Kd H (.ref a) "list"
  | tup (a : Addr) (xs : List V) (h : H a = some (.tup xs)) : Kd H (.ref a) "tuple"
  | dct (a : Addr) (xs : List (Key × V)) (h : H a = some (.dK xs)) : Kd H (.ref a) "dict"
theorem Kd.ty {K : PySem.W.Frag} {H : Hp} {x : V} {n : String} (k : Kd H x n) : TyX K H x (.type n) := by
  cases k with
  | non => exact .base .non
  | bl b => exact .base (.bl _)
  | int i => exact .base (.int _)
  | str z => exact .base (.str _)
  | lst a xs h => exact .base (.lst h)
  | tup a xs h => exact .base (.tup h)
  | dct a xs h => exact .base (.dK h)
theorem Kd.kits {H : Hp} {x : V} {n : String} (k : Kd H x n) : n ∈ ["NoneType", "bool", "int", "str", "list", "tuple", "dict"] := by cases k <;> decide
structure Bm (mg : Str → Option Value) : Prop where
  isinstance : mg "isinstance" = none
  str : mg "str" = none
  bool : mg "bool" = none
  list : mg "list" = none
  tuple : mg "tuple" = none
  longest : ∃ t, mg "LONGEST_LABEL" = some (.int 6 t)
theorem kit_int {n : String} (h : n ∈ ["NoneType", "bool", "int", "str", "list", "tuple", "dict"]) : kitB n "int" = some (n == "int" || n == "bool") := by
  simp only [List.mem_cons, List.not_mem_nil, or_false] at h
  rcases h with h | h | h | h | h | h | h <;> (subst h; decide +kernel)
theorem kit_bool {n : String} (h : n ∈ ["NoneType", "bool", "int", "str", "list", "tuple", "dict"]) : kitB n "bool" = some (n == "bool") := by
  simp only [List.mem_cons, List.not_mem_nil, or_false] at h
  rcases h with h | h | h | h | h | h | h <;> (subst h; decide +kernel)
theorem kit_str {n : String} (h : n ∈ ["NoneType", "bool", "int", "str", "list", "tuple", "dict"]) : kitB n "str" = some (n == "str") := by
  simp only [List.mem_cons, List.not_mem_nil, or_false] at h
  rcases h with h | h | h | h | h | h | h <;> (subst h; decide +kernel)
theorem kit_list {n : String} (h : n ∈ ["NoneType", "bool", "int", "str", "list", "tuple", "dict"]) : kitB n "list" = some (n == "list") := by
  simp only [List.mem_cons, List.not_mem_nil, or_false] at h
  rcases h with h | h | h | h | h | h | h <;> (subst h; decide +kernel)
theorem kit_tuple {n : String} (h : n ∈ ["NoneType", "bool", "int", "str", "list", "tuple", "dict"]) : kitB n "tuple" = some (n == "tuple") := by
  simp only [List.mem_cons, List.not_mem_nil, or_false] at h
  rcases h with h | h | h | h | h | h | h <;> (subst h; decide +kernel)
/-- a whole number from lo to hi -/
def wholeV (x : V) (lo hi : Int) : Bool := match x with
  | .int i => decide (lo ≤ i) && decide (i ≤ hi)
  | _ => false
def spWhole : Sp := fun vs H Q _ => ∃ (x : V) (n : String) (lo hi : Int), vs = [x, .int lo, .int hi] ∧ Kd H x n ∧ Q (.bl (wholeV x lo hi)) H
theorem scWhole : FnScope ["thing", "low", "high"] ["thing", "low", "high"] (defScope sWhole) := ⟨rfl, rfl, rfl, by decide +kernel, rfl, by decide +kernel, by decide +kernel⟩
theorem ok_whole {f : Addr} {fd : FuncData} (F : Fun K "is_whole" "is_whole" sWhole f fd) (m : mg "is_whole" = some (.ref f)) (T : Bl mg) (B : Bm mg) : HasF P w K mg base "is_whole" 1 ["thing", "low", "high"] spWhole := by
  refine ⟨f, fd, ?_, m, F.kp, F.binds fun _ _ _ _ _ _ us hl => by obtain ⟨_, _, _, rfl⟩ := us3 hl; exact rfl⟩
  refine F.ok scWhole (fun vs H Q E h => ?_) (fun cdv A outer s H vs Q E hr h => ?_)
  · obtain ⟨a, b, c, d, rfl, _⟩ := h
    rfl
  · obtain ⟨x, n, lo, hi, rfl, hk, k⟩ := h
    refine ⟨_, pss_one (ps_ret (pe_and (pe_callB call_isi (by rfl) B.isinstance (by decide +kernel) (pa_cons (pv 0) (pa_cons (pe_bltn (v := .ty "int") (by rfl) T.int (by decide +kernel) rfl) pa_nil))) (pe_and (pe_not (pe_callB call_isi (by rfl) B.isinstance (by decide +kernel) (pa_cons (pv 0) (pa_cons (pe_bltn (v := .ty "bool") (by rfl) B.bool (by decide +kernel) rfl) pa_nil)))) (pe_one (pe_chain op_le op_le (pv 1) (pv 0) (pv 2)))))), ?_⟩
    refine ⟨_, rfl, x, _, _, _, _, rfl, .ty _, hk.ty, kit_ty (kit_int hk.kits), _, rfl, ?_⟩
    cases hk with
    | int i =>
      refine iteT ⟨_, rfl, .int i, _, _, _, _, rfl, .ty _, (Kd.int (H := H) i).ty, kit_ty (kit_bool (Kd.int (H := H) i).kits), _, rfl, _, rfl, ?_⟩
      refine iteT ⟨_, rfl, _, rfl, _, _, rfl, rfl, _, rfl, ?_⟩
      refine ite2 (fun h1 => ?_) (fun h1 => ?_)
      · have h1 : lo ≤ i := of_decide_eq_true h1
        refine ⟨_, rfl, _, _, rfl, rfl, ?_⟩
        have e : wholeV (.int i) lo hi = decide (i ≤ hi) := by simp [wholeV, h1]
        rw [e] at k
        exact k
      · have h1 : ¬ lo ≤ i := fun z => h1 (decide_eq_true z)
        have e : wholeV (.int i) lo hi = false := by simp [wholeV, h1]
        rw [e] at k
        exact k
    | bl b =>
      refine iteT ⟨_, rfl, .bl b, _, _, _, _, rfl, .ty _, (Kd.bl (H := H) b).ty, kit_ty (kit_bool (Kd.bl (H := H) b).kits), _, rfl, _, rfl, ?_⟩
      exact iteF k
    | non => exact iteF k
    | str z => exact iteF k
    | lst a xs h => exact iteF k
    | tup a xs h => exact iteF k
    | dct a xs h => exact iteF k
/-! labels -/
def isLow (c : Nat) : Bool := decide (97 ≤ c) && decide (c ≤ 122)
def isLab (z : Str) : Bool := decide (1 ≤ z.length) && (decide (z.length ≤ 6) && z.cps.toList.all isLow)
def labV (x : V) : Bool := match x with
  | .str z => isLab z
  | _ => false
theorem low_alpha : ∀ n : Fin 128, isLow n.1 = (Unicode.isAlpha n.1 && !(Unicode.isUpper n.1 || Unicode.isTitle n.1)) := by decide +kernel
theorem low_lower : ∀ n : Fin 128, isLow n.1 = true → Unicode.isLower n.1 = true := by decide +kernel
theorem low_small {c : Nat} (h : isLow c = true) : c < 128 := by
  simp only [isLow, Bool.and_eq_true, decide_eq_true_eq] at h
  omega
theorem three (z : Str) (h : 1 ≤ z.length) : (PySem.Txt.isascii z && (PySem.Txt.isalpha z && PySem.Txt.islower z)) = z.cps.toList.all isLow := by
  have hl : z.cps.toList.length = z.length := by simp [Str.length]
  unfold PySem.Txt.isascii PySem.Txt.isalpha PySem.Txt.islower
  rw [← Array.all_toList, ← Array.all_toList, ← Array.any_toList, ← Array.any_toList]
  generalize z.cps.toList = l at hl
  cases e : l.all isLow with
  | true =>
    rw [List.all_eq_true] at e
    have a1 : l.all (fun c => decide (c < 128)) = true := List.all_eq_true.mpr fun c hc => decide_eq_true (low_small (e c hc))
    have a2 : l.all Unicode.isAlpha = true := List.all_eq_true.mpr fun c hc => by
      have q := low_alpha ⟨c, low_small (e c hc)⟩
      rw [show isLow c = true from e c hc] at q
      exact (Bool.and_eq_true_iff.mp q.symm).1
    have a3 : l.any Unicode.isLower = true := by
      cases l with
      | nil => simp only [List.length_nil] at hl; omega
      | cons c l => exact List.any_eq_true.mpr ⟨c, List.mem_cons_self, low_lower ⟨c, low_small (e c List.mem_cons_self)⟩ (e c List.mem_cons_self)⟩
    have a4 : (l.any fun c => Unicode.isUpper c || Unicode.isTitle c) = false := List.any_eq_false.mpr fun c hc => by
      have q := low_alpha ⟨c, low_small (e c hc)⟩
      rw [show isLow c = true from e c hc] at q
      have q2 := (Bool.and_eq_true_iff.mp q.symm).2
      intro z
      rw [z] at q2
      cases q2
    rw [a1, a2, a3, a4]
    have h' : decide (z.length > 0) = true := decide_eq_true (by omega)
    rw [h']
    rfl
  | false =>
    obtain ⟨c, hc, hn⟩ := List.all_eq_false.mp e
    cases a1 : l.all (fun c => decide (c < 128)) with
    | false => rfl
    | true =>
      cases a2 : l.all Unicode.isAlpha with
      | false => simp
      | true =>
        have b1 : c < 128 := of_decide_eq_true (List.all_eq_true.mp a1 c hc)
        have b2 : Unicode.isAlpha c = true := List.all_eq_true.mp a2 c hc
        have q := low_alpha ⟨c, b1⟩
        simp only [b2, Bool.true_and] at q
        have q1 : isLow c = false := by
          cases z : isLow c
          · rfl
          · exact absurd z hn
        rw [q1] at q
        have a4 : (l.any fun c => Unicode.isUpper c || Unicode.isTitle c) = true := List.any_eq_true.mpr ⟨c, hc, by
          cases z : (Unicode.isUpper c || Unicode.isTitle c)
          · rw [z] at q; cases q
          · rfl⟩
        rw [a4]
        simp
def spLabel : Sp := fun vs H Q _ => ∃ (x : V) (n : String), vs = [x] ∧ Kd H x n ∧ (∀ z, x = .str z → z.length ≤ sizeLine) ∧ Q (.bl (labV x)) H
theorem scLabel : FnScope ["thing"] ["thing"] (defScope sLabel) := ⟨rfl, rfl, rfl, by decide +kernel, rfl, by decide +kernel, by decide +kernel⟩
theorem ok_label {f : Addr} {fd : FuncData} (F : Fun K "is_label" "is_label" sLabel f fd) (m : mg "is_label" = some (.ref f)) (T : Bl mg) (B : Bm mg) : HasF P w K mg base "is_label" 1 ["thing"] spLabel := by
  refine ⟨f, fd, ?_, m, F.kp, F.binds fun _ _ _ _ _ _ us hl => by obtain ⟨_, rfl⟩ := us1 hl; exact rfl⟩
  obtain ⟨tL, mL⟩ := B.longest
  refine F.ok scLabel (fun vs H Q E h => ?_) (fun cdv A outer s H vs Q E hr h => ?_)
  · obtain ⟨a, b, rfl, _⟩ := h
    rfl
  · obtain ⟨x, n, rfl, hk, hz, k⟩ := h
    refine ⟨_, pss_cons (ps_if (PW.pt (pw_or (pt_not (pt_val (pe_callB call_isi (by rfl) B.isinstance (by decide +kernel) (pa_cons (pv 0) (pa_cons (pe_bltn (v := .ty "str") (by rfl) B.str (by decide +kernel) rfl) pa_nil))))) (pw_or1 (pt_not (pt_chain op_le op_le pe_int (pe_callB call_len_str (by rfl) T.len PySem.boot_len (pa_cons (pv 0) pa_nil)) (pe_glob (v := .int 6) rfl mL ⟨_, rfl⟩)))))) (pss_one (ps_ret pe_bl)) pss_nil)
      (pss_one (ps_ret (pe_and (pe_m0 PySem.F.slot_str_isascii PySem.F.type_str_isascii mt_isascii (pv 0)) (pe_and (pe_m0 PySem.F.slot_str_isalpha PySem.F.type_str_isalpha mt_isalpha (pv 0)) (pe_one (pe_m0 PySem.F.slot_str_islower PySem.F.type_str_islower mt_islower (pv 0))))))), ?_⟩
    refine ⟨_, rfl, x, _, _, _, _, rfl, .ty _, hk.ty, kit_ty (kit_str hk.kits), _, rfl, ?_⟩
    cases hk with
    | str z =>
      have hz := hz z rfl
      refine iteF ?_
      refine ⟨_, rfl, z, rfl, hz, _, _, rfl, rfl, _, rfl, ?_⟩
      refine ite2 (fun h1 => ?_) (fun h1 => ?_)
      · have h1 : (1 : Int) ≤ (z.length : Nat) := of_decide_eq_true h1
        have h1' : 1 ≤ z.length := by omega
        refine ⟨_, _, rfl, rfl, _, rfl, ?_⟩
        refine ite2 (fun h2 => ?_) (fun h2 => ?_)
        · have h2 : ¬ (z.length : Int) ≤ 6 := fun e => by rw [decide_eq_true e] at h2; cases h2
          have e : labV (.str z) = false := by
            show isLab z = false
            unfold isLab
            rw [decide_eq_false (show ¬ z.length ≤ 6 by omega), Bool.false_and, Bool.and_false]
          rw [e] at k
          exact k
        · have h2 : (z.length : Int) ≤ 6 := Classical.byContradiction fun e => h2 (by rw [decide_eq_false e]; rfl)
          have e : labV (.str z) = (PySem.Txt.isascii z && (PySem.Txt.isalpha z && PySem.Txt.islower z)) := by
            rw [three z h1']
            show isLab z = _
            unfold isLab
            rw [decide_eq_true h1', decide_eq_true (show z.length ≤ 6 by omega), Bool.true_and, Bool.true_and]
          rw [e] at k
          refine ⟨_, rfl, ⟨_, rfl⟩, _, rfl, rfl, trivial, _, rfl, ?_⟩
          cases e1 : PySem.Txt.isascii z with
          | false => rw [e1] at k; exact iteF k
          | true =>
            rw [e1, Bool.true_and] at k
            refine iteT ⟨_, rfl, ⟨_, rfl⟩, _, rfl, rfl, trivial, _, rfl, ?_⟩
            cases e2 : PySem.Txt.isalpha z with
            | false => rw [e2] at k; exact iteF k
            | true =>
              rw [e2, Bool.true_and] at k
              exact iteT ⟨_, rfl, ⟨_, rfl⟩, _, rfl, rfl, trivial, k⟩
      · have h1 : ¬ (1 : Int) ≤ (z.length : Nat) := fun e => h1 (decide_eq_true e)
        have e : labV (.str z) = false := by
          show isLab z = false
          unfold isLab
          rw [decide_eq_false (show ¬ 1 ≤ z.length by omega), Bool.false_and]
        rw [e] at k
        exact ⟨_, rfl, iteT k⟩
    | int i => exact iteT k
    | bl b => exact iteT k
    | non => exact iteT k
    | lst a xs h => exact iteT k
    | tup a xs h => exact iteT k
    | dct a xs h => exact iteT k
def seqV (n : String) : Bool := n == "list" || n == "tuple"
def spSeq : Sp := fun vs H Q _ => ∃ (x : V) (n : String), vs = [x] ∧ Kd H x n ∧ ∀ H', Same H H' → Q (.bl (seqV n)) H'
theorem scSeq : FnScope ["thing"] ["thing"] (defScope sSeq) := ⟨rfl, rfl, rfl, by decide +kernel, rfl, by decide +kernel, by decide +kernel⟩
theorem kit_seq {K : PySem.W.Frag} {n : String} (h : n ∈ ["NoneType", "bool", "int", "str", "list", "tuple", "dict"]) : PySem.W.kitAny K (.type n) [.type "list", .type "tuple"] = some (seqV n) := by
  refine kitAny_cons (kit_ty (kit_list h)) (fun e => kitAny_cons (kit_ty (kit_tuple h)) (fun e2 => ?_) (fun e2 => ?_)) (fun e => ?_)
  · unfold seqV; rw [e, e2]; exact kitAny_nil
  · unfold seqV; rw [e, e2]; rfl
  · unfold seqV; rw [e]; rfl
theorem Kd.keep {H H' : Hp} {x : V} {n : String} (k : Kd H x n) (s : Same H H') : Kd H' x n := by
  cases k with
  | non => exact .non
  | bl b => exact .bl b
  | int i => exact .int i
  | str z => exact .str z
  | lst a xs h => exact .lst a xs (s _ _ h)
  | tup a xs h => exact .tup a xs (s _ _ h)
  | dct a xs h => exact .dct a xs (s _ _ h)
def cV (c : Nat) : V := .str (SX.S [c])
theorem map_cV (l : List Nat) : l.map cV = (l.map fun c => SX.S [c]).map V.str := by rw [List.map_map]; rfl
theorem keepUpd {H H1 : Hp} {p a : Addr} {o : HO} (k : Keep H H1 p) (h : H a = none) : Keep H (upd H1 a o) p := fun b u e ne => by
  rw [upd_ne (ne_of_none e h)]
  exact k b u e ne
theorem HandAt.upd {H : Hp} {p q a : Addr} {o : HO} (h : HandAt H p q) (n1 : a ≠ p) (n2 : a ≠ q) : HandAt (upd H a o) p q := by
  obtain ⟨cs, x, b, c, h1, h2⟩ := h
  exact ⟨cs, x, b, c, by rw [upd_ne n1.symm]; exact h1, by rw [upd_ne n2.symm]; exact h2⟩
theorem HandAt.ap {H : Hp} {p q a : Addr} (h : HandAt H p q) (ha : H a = none) : a ≠ p := by
  obtain ⟨cs, x, b, c, h1, h2⟩ := h
  exact (ne_of_none h1 ha).symm
theorem HandAt.aq {H : Hp} {p q a : Addr} (h : HandAt H p q) (ha : H a = none) : a ≠ q := by
  obtain ⟨cs, x, b, c, h1, h2⟩ := h
  exact (ne_of_none h2 ha).symm
theorem HandAt.same {H H' : Hp} {p q : Addr} (h : HandAt H p q) (s : Same H H') : HandAt H' p q := by
  obtain ⟨cs, x, b, c, h1, h2⟩ := h
  exact ⟨cs, x, b, c, s _ _ h1, s _ _ h2⟩
theorem Same.keep {H H' : Hp} {p : Addr} (s : Same H H') : Keep H H' p := fun b o e _ => s b o e
/-- texts as data -/
def dS (ys : List Str) : List PyData := ys.map PyData.str
theorem dp_strs {K : PySem.W.Frag} {H : Hp} : ∀ ys : List Str, DpAll K H (ys.map V.str) (dS ys)
  | [] => .nil
  | y :: ys => .cons (.str y) (dp_strs ys)
def Ok (ys : List Str) : Prop := ∀ y ∈ ys, PyData.strOk y = true
theorem low_ok {z : Str} (h : Low z) : PyData.strOk z = true := by
  unfold PyData.strOk
  rw [← Array.all_toList]
  exact List.all_eq_true.mpr fun c hc => decide_eq_true (by have := h c hc; omega)
theorem lay_strs {ys : List Str} (h : Ok ys) : PyData.canLayAll0 (dS ys) = true := by
  unfold dS
  rw [PyProof.Rows.canLayAll_strs']
  exact List.all_eq_true.mpr h
theorem deep_strs : ∀ ys : List Str, PyData.depthAll (dS ys) ≤ 1
  | [] => Nat.zero_le _
  | y :: ys => by
    have ih := deep_strs ys
    show max (PyData.depth (.str y)) (PyData.depthAll (dS ys)) ≤ 1
    have e : PyData.depth (.str y) = 0 := rfl
    omega
theorem shaped_list {ys : List Str} (ok : Ok ys) : SeqAt.shaped (.list (dS ys)) = true := by
  have h := lay_strs ok
  have h2 := deep_strs ys
  have h3 : PyData.depth (.list (dS ys)) ≤ 64 := by
    show PyData.depthAll (dS ys) + 1 ≤ 64
    omega
  unfold SeqAt.shaped
  rw [decide_eq_true h3, Bool.and_true]
  exact h
/-- a comprehension over a text's signs -/
theorem lc_str {z : Str} {g : TG} {tt : TT} {te : TE} {vs : List Nat} {σ : St} {H1 : Hp} {D : Addr} {Qd : Hp → Prop} (W : Nat → Hp → Prop) (start : W 0 (upd H1 D (.lst [])))
    (turn : ∀ i c H, z.cps[i]? = some c → W i H → g (.str ⟨#[c]⟩) (wipe σ vs) H fun σ2 H2 => wipe σ2 vs = wipe σ vs ∧ tt σ2 H2 fun b H3 =>
      if b = true then te σ2 H3 fun y H4 => ∃ acc, H4 D = some (.lst acc) ∧ acc.length < sizeLine ∧ W (i + 1) (upd H4 D (.lst (acc ++ [y]))) else W (i + 1) H3) (after : ∀ H, W z.cps.size H → Qd H) :
    ∃ U : Nat → Nat → Hp → Prop, (∃ m, U 0 m (upd H1 D (.lst []))) ∧ ∀ i m H, U i m H → ((Its z).stop i H ∧ Qd H) ∨ ((Its z).go i H ∧ ∃ Nx : Hp → Prop, (∀ H', Nx H' → ∃ m', m' < m ∧ U (i + 1) m' H') ∧
      ∀ x H', (Its z).yld i H x H' → g x (wipe σ vs) H' fun σ2 H2 => wipe σ2 vs = wipe σ vs ∧ tt σ2 H2 fun b H3 => if b = true then te σ2 H3 fun y H4 => ∃ acc, H4 D = some (.lst acc) ∧ acc.length < sizeLine ∧ Nx (upd H4 D (.lst (acc ++ [y]))) else Nx H3) := by
  refine ⟨fun i m H => m + i = z.cps.size ∧ W i H, ⟨z.cps.size, by omega, start⟩, fun i m H u => ?_⟩
  obtain ⟨e, u⟩ := u
  cases m with
  | zero =>
    obtain rfl : i = z.cps.size := by omega
    exact .inl ⟨Nat.le_refl _, after _ u⟩
  | succ m =>
    have lt : i < z.cps.size := by omega
    refine .inr ⟨lt, W (i + 1), fun H' u' => ⟨m, Nat.lt_succ_self _, by omega, u'⟩, fun x H' y => ?_⟩
    obtain ⟨rfl, c, hc, rfl⟩ := y
    exact turn i c _ hc u
def spLLab : Sp := fun vs H Q _ => ∃ (x : V) (n : String), vs = [x] ∧ Kd H x n ∧ (∀ z, x = .str z → PyData.strOk z = true ∧ z.length ≤ 900) ∧ ∀ H', Same H H' → Q (.bl (labV x)) H'
theorem eqv_nil : ∀ ys : List Str, PyData.eqv (.list (dS ys)) (.list []) = ys.isEmpty
  | [] => rfl
  | y :: ys => rfl
/-- the signs that are no letters from a to z -/
def bad (l : List Nat) : List Nat := l.filter fun c => !isLow c
theorem bad_nil (l : List Nat) : (bad l).isEmpty = l.all isLow := by
  unfold bad
  induction l with
  | nil => rfl
  | cons c l ih =>
    rw [List.filter_cons, List.all_cons, ← ih]
    cases isLow c <;> rfl
theorem abc_in : ∀ c, decide (c ∈ (Str.ofString "abcdefghijklmnopqrstuvwxyz").cps.toList) = isLow c := fun c => by
  have e : (Str.ofString "abcdefghijklmnopqrstuvwxyz").cps.toList = (List.range 26).map (97 + ·) := by decide +kernel
  rw [e]
  unfold isLow
  by_cases h : c ∈ (List.range 26).map (97 + ·)
  · obtain ⟨j, hj, rfl⟩ := List.mem_map.mp h
    have := List.mem_range.mp hj
    rw [decide_eq_true h, decide_eq_true (show 97 ≤ 97 + j by omega), decide_eq_true (show 97 + j ≤ 122 by omega)]
    rfl
  · rw [decide_eq_false h]
    by_cases h1 : 97 ≤ c
    · have h2 : ¬ c ≤ 122 := fun h2 => h (List.mem_map.mpr ⟨c - 97, List.mem_range.mpr (by omega), by omega⟩)
      rw [decide_eq_false h2, Bool.and_false]
    · rw [decide_eq_false h1, Bool.false_and]
theorem scLLabel : FnScope ["_law_thing_here", "_law_sign"] ["_law_thing_here"] (defScope sLLabel) := ⟨rfl, rfl, rfl, by decide +kernel, rfl, by decide +kernel, by decide +kernel⟩
theorem ok_llab {f : Addr} {fd : FuncData} (F : Fun K "_law_label" "_law_label" sLLabel f fd) (m : mg "_law_label" = some (.ref f)) (T : Bl mg) (B : Bm mg) : HasF P w K mg base "_law_label" 1 ["_law_thing_here"] spLLab := by
  refine ⟨f, fd, ?_, m, F.kp, F.binds fun _ _ _ _ _ _ us hl => by obtain ⟨_, rfl⟩ := us1 hl; exact rfl⟩
  refine F.ok scLLabel (fun vs H Q E h => ?_) (fun cdv A outer s H vs Q E hr h => ?_)
  · obtain ⟨a, b, rfl, _⟩ := h
    rfl
  · obtain ⟨x, n, rfl, hk, hz, k⟩ := h
    refine ⟨_, pss_cons (ps_if (PW.pt (pw_or (pt_not (pt_val (pe_callB call_isi (by rfl) B.isinstance (by decide +kernel) (pa_cons (pv 0) (pa_cons (pe_bltn (v := .ty "str") (by rfl) B.str (by decide +kernel) rfl) pa_nil))))) (pw_or1 (pt_not (pt_chain op_le op_le pe_int (pe_callB call_len_str (by rfl) T.len PySem.boot_len (pa_cons (pv 0) pa_nil)) pe_int))))) (pss_one (ps_ret pe_bl)) pss_nil)
      (pss_one (ps_ret (pe_cmpR (op_eqD hr.units) (pe_lc (own := [("_law_sign", 1)]) (g := gName 1) (by rfl) scLLabel.nd (pi_str (pv 0)) (blkOk_by (own := [("_law_sign", 1)]) (N := ["_law_thing_here", "_law_sign"]) (sc := defScope sLLabel) (by decide +kernel))
          (fun _ _ _ _ _ => pg_name (i := 1) scLLabel.nd rfl (Or.inl rfl)) (fun _ _ _ _ _ => pts_one (pt_cmpR op_notIn_sign (pv 1) pe_str (by rfl))) (fun _ _ _ _ _ => pv 1)) (pe_lst pa_nil) (nomark _)))), ?_⟩
    refine ⟨_, rfl, x, _, _, _, _, rfl, .ty _, hk.ty, kit_ty (kit_str hk.kits), _, rfl, ?_⟩
    cases hk with
    | str z =>
      obtain ⟨hok, hz⟩ := hz z rfl
      refine iteF ?_
      refine ⟨_, rfl, z, rfl, Nat.le_of_lt (small1000 (by omega)), _, _, rfl, rfl, _, rfl, ?_⟩
      refine ite2 (fun h1 => ?_) (fun h1 => ?_)
      · have h1 : (1 : Int) ≤ (z.length : Nat) := of_decide_eq_true h1
        have h1' : 1 ≤ z.length := by omega
        refine ⟨_, _, rfl, rfl, _, rfl, ?_⟩
        refine ite2 (fun h2 => ?_) (fun h2 => ?_)
        · have h2 : ¬ (z.length : Int) ≤ 6 := fun e => by rw [decide_eq_true e] at h2; cases h2
          have e : labV (.str z) = false := by
            show isLab z = false
            unfold isLab
            rw [decide_eq_false (show ¬ z.length ≤ 6 by omega), Bool.false_and, Bool.and_false]
          rw [e] at k
          exact k H (Same.refl _)
        · have h2 : (z.length : Int) ≤ 6 := Classical.byContradiction fun e => h2 (by rw [decide_eq_false e]; rfl)
          have e : labV (.str z) = z.cps.toList.all isLow := by
            show isLab z = _
            unfold isLab
            rw [decide_eq_true h1', decide_eq_true (show z.length ≤ 6 by omega), Bool.true_and, Bool.true_and]
          rw [e] at k
          have tk : ∀ i c, z.cps[i]? = some c → bad (z.cps.toList.take (i + 1)) = bad (z.cps.toList.take i) ++ (if isLow c then [] else [c]) := fun i c hc => by
            unfold bad
            rw [List.take_add_one, Array.getElem?_toList, hc, List.filter_append]
            cases q : isLow c <;> simp [q]
          have sz : z.cps.toList.take z.cps.size = z.cps.toList := by rw [List.take_of_length_le (by simp)]
          refine ⟨_, rfl, z, rfl, fun D hD => lc_str (z := z) (fun i H3 => Same H H3 ∧ H3 D = some (.lst ((bad (z.cps.toList.take i)).map cV))) ⟨sameUpd (Same.refl _) hD, upd_same⟩ ?_ ?_⟩
          · rintro i c H3 hc ⟨s3, hd⟩
            have hi : i < z.cps.size := (Array.getElem?_eq_some_iff.mp hc).1
            have hz2 : z.cps.size = z.length := rfl
            have t := tk i c hc
            refine ⟨rfl, _, rfl, c, _, rfl, rfl, _, rfl, ?_⟩
            rw [abc_in]
            cases q : isLow c with
            | true =>
              rw [q] at t
              refine (if_neg (by decide)).mpr ⟨s3, ?_⟩
              rw [t]
              exact hd.trans (by simp)
            | false =>
              rw [q] at t
              refine (if_pos (by decide)).mpr ⟨_, rfl, _, hd, small1000 ?_, ?_, ?_⟩
              · rw [List.length_map]
                have l1 : (bad (z.cps.toList.take i)).length ≤ (z.cps.toList.take i).length := List.length_filter_le _ _
                rw [List.length_take] at l1
                omega
              · intro b u e
                rw [upd_ne (ne_of_none e hD)]
                exact s3 b u e
              · rw [upd_same, t]
                simp [cV]
          · rintro H3 ⟨s3, hd⟩
            rw [sz] at hd
            refine ⟨by decide, fun p hp => ?_⟩
            have npd : D ≠ p := ne_of_none hd hp
            have ok : Ok ((bad z.cps.toList).map fun c => SX.S [c]) := fun y hy => by
              obtain ⟨c, hc, rfl⟩ := List.mem_map.mp hy
              have hc2 : c ∈ z.cps.toList := (List.mem_filter.mp hc).1
              unfold PyData.strOk at hok ⊢
              rw [← Array.all_toList] at hok
              have := List.all_eq_true.mp hok c hc2
              simpa using this
            refine ⟨.list (dS ((bad z.cps.toList).map fun c => SX.S [c])), .list [], .lst (SqL.of (xs := ((bad z.cps.toList).map fun c => SX.S [c]).map V.str) (by rw [upd_ne npd, ← map_cV]; exact hd)) (dp_strs _), .lst (SqL.of upd_same) .nil, shaped_list ok, by decide, ?_⟩
            rw [eqv_nil]
            have e2 : ((bad z.cps.toList).map fun c => SX.S [c]).isEmpty = z.cps.toList.all isLow := by rw [List.isEmpty_map, bad_nil]
            rw [e2]
            exact k _ (sameUpd s3 hp)
      · have h1 : ¬ (1 : Int) ≤ (z.length : Nat) := fun e => h1 (decide_eq_true e)
        have e : labV (.str z) = false := by
          show isLab z = false
          unfold isLab
          rw [decide_eq_false (show ¬ 1 ≤ z.length by omega), Bool.false_and]
        rw [e] at k
        exact ⟨_, rfl, iteT (k H (Same.refl _))⟩
    | int i => exact iteT (k H (Same.refl _))
    | bl b => exact iteT (k H (Same.refl _))
    | non => exact iteT (k H (Same.refl _))
    | lst a xs h => exact iteT (k H (Same.refl _))
    | tup a xs h => exact iteT (k H (Same.refl _))
    | dct a xs h => exact iteT (k H (Same.refl _))
def Fine (z : Str) : Prop := PyData.strOk z = true ∧ z.length ≤ 40
theorem none2 {H : Hp} {a b : Addr} {o : HO} (h : upd H a o b = none) : H b = none ∧ b ≠ a := by
  have n : b ≠ a := fun e => by rw [e, upd_same] at h; cases h
  rw [upd_ne n] at h
  exact ⟨h, n⟩
end
end Kx

set_option maxHeartbeats 4000000
namespace Kx
open PySem L2
/-! own errors with fields -/
section
variable {P : Program} {w : World} {K : PySem.W.Frag} {mg : Str → Option Value} {base : Heap}
/-- __init__ of such an error: both are stored -/
def spInit2 (K : PySem.W.Frag) (C : Addr) (f1 f2 : Str) : Sp := fun vs H Q _ => ∃ (a : Addr) (y z : V), vs = [.ref a, y, z] ∧ OexC K C ∧ PySem.W.findIn K (.ref C) f1 = some none ∧ PySem.W.findIn K (.ref C) f2 = some none ∧ H a = some (exo a C none) ∧
  ∀ (d : Addr) (H' : Hp), H d = none → d ≠ a → H' a = some (exo a C (some d)) → H' d = some (exd d [(f2, z), (f1, y)]) → (∀ b o, H b = some o → b ≠ a → H' b = some o) → Q .non H'
/-- __init__ of an error with one field -/
def spInit1 (K : PySem.W.Frag) (C : Addr) (f1 : Str) : Sp := fun vs H Q _ => ∃ (a : Addr) (y : V), vs = [.ref a, y] ∧ OexC K C ∧ PySem.W.findIn K (.ref C) f1 = some none ∧ H a = some (exo a C none) ∧
  ∀ (d : Addr) (H' : Hp), H d = none → d ≠ a → H' a = some (exo a C (some d)) → H' d = some (exd d [(f1, y)]) → (∀ b o, H b = some o → b ≠ a → H' b = some o) → Q .non H'
end
section
variable {P : Program} {w : World} {K : PySem.W.Frag} {mg : Str → Option Value} {base : Heap}
theorem scBadCondition : FnScope ["self", "what"] ["self", "what"] (defScope sBadCondition_init) := ⟨rfl, rfl, rfl, by decide +kernel, rfl, by decide +kernel, by decide +kernel⟩
theorem ok_BadCondition {f C : Addr} {fd : FuncData} (F : Fun K "__init__" "BadCondition.__init__" sBadCondition_init f fd) : FnOk P w K mg base CX0 1 f fd ["self", "what"] (spInit1 K C "what") := by
  refine F.ok scBadCondition (fun vs H Q E h => ?_) (fun cdv A outer s H vs Q E hr h => ?_)
  · obtain ⟨a, y, rfl, _⟩ := h
    rfl
  · obtain ⟨a, y, rfl, T, n1, ha, k⟩ := h
    refine ⟨_, pss_one (ps_ost (pv 0) (pv 1)), ?_⟩
    refine ⟨_, rfl, _, rfl, a, C, rfl, T, n1, .inl ⟨ha, fun dx hdx ne => ?_⟩⟩
    refine k dx _ hdx ne upd_same (by rw [upd_ne ne, upd_same]) fun b o e nb => ?_
    rw [upd_ne nb, upd_ne (ne_of_none e hdx)]
    exact e
theorem scBadChange : FnScope ["self", "what"] ["self", "what"] (defScope sBadChange_init) := ⟨rfl, rfl, rfl, by decide +kernel, rfl, by decide +kernel, by decide +kernel⟩
theorem ok_BadChange {f C : Addr} {fd : FuncData} (F : Fun K "__init__" "BadChange.__init__" sBadChange_init f fd) : FnOk P w K mg base CX0 1 f fd ["self", "what"] (spInit1 K C "what") := by
  refine F.ok scBadChange (fun vs H Q E h => ?_) (fun cdv A outer s H vs Q E hr h => ?_)
  · obtain ⟨a, y, rfl, _⟩ := h
    rfl
  · obtain ⟨a, y, rfl, T, n1, ha, k⟩ := h
    refine ⟨_, pss_one (ps_ost (pv 0) (pv 1)), ?_⟩
    refine ⟨_, rfl, _, rfl, a, C, rfl, T, n1, .inl ⟨ha, fun dx hdx ne => ?_⟩⟩
    refine k dx _ hdx ne upd_same (by rw [upd_ne ne, upd_same]) fun b o e nb => ?_
    rw [upd_ne nb, upd_ne (ne_of_none e hdx)]
    exact e
theorem scBadClause : FnScope ["self", "index", "what"] ["self", "index", "what"] (defScope sBadClause_init) := ⟨rfl, rfl, rfl, by decide +kernel, rfl, by decide +kernel, by decide +kernel⟩
theorem ok_BadClause {f C : Addr} {fd : FuncData} (F : Fun K "__init__" "BadClause.__init__" sBadClause_init f fd) : FnOk P w K mg base CX0 1 f fd ["self", "index", "what"] (spInit2 K C "index" "what") := by
  refine F.ok scBadClause (fun vs H Q E h => ?_) (fun cdv A outer s H vs Q E hr h => ?_)
  · obtain ⟨a, y, z, rfl, _⟩ := h
    rfl
  · obtain ⟨a, y, z, rfl, T, n1, n2, ha, k⟩ := h
    refine ⟨_, pss_cons (ps_ost (pv 0) (pv 1)) (pss_one (ps_ost (pv 0) (pv 2))), ?_⟩
    refine ⟨_, rfl, _, rfl, a, C, rfl, T, n1, .inl ⟨ha, fun dx hdx ne => ?_⟩⟩
    refine ⟨_, rfl, _, rfl, a, C, rfl, T, n2, .inr ⟨dx, _, upd_same, by rw [upd_ne ne, upd_same], (by show 1 ≤ 900; decide), ?_⟩⟩
    refine k dx _ hdx ne (by rw [upd_ne ne.symm, upd_same]) upd_same fun b o e nb => ?_
    rw [upd_ne (ne_of_none e hdx), upd_ne nb, upd_ne (ne_of_none e hdx)]
    exact e
end
/-- what is known of an error's class -/
structure ErC (P : Program) (w : World) (K : PySem.W.Frag) (mg : Str → Option Value) (base : Heap) (x : Str) (ps : List Str) (C fI : Addr) (fd : FuncData) (sp : Sp) : Prop where
  T : OexC K C
  iC : PySem.W.findIn K (.ref C) "__init__" = some (some (.ref fI))
  tI : PySem.W.typeIn K (.ref fI) = some (.type "function")
  gC : mg x = some (.ref C)
  b : Binds K fd ps []
  G : FnOk P w K mg base CX0 1 fI fd ps sp
  xf : XfC K C
theorem fin2 {K : PySem.W.Frag} {C : Addr} {f1 f2 : Str} (T : OexC K C) (n1 : PySem.W.findIn K (.ref C) f1 = some none) (n2 : PySem.W.findIn K (.ref C) f2 = some none) {H : Hp} {y z : V} {Q : XK} (q : ∀ d H', H d = none → Same H H' → H' d = some (.xd [(f2, z), (f1, y)]) → Q (.ref C) (some d) H') :
    [y, z].length ≤ 1000 ∧ ∀ a, H a = none → spInit2 K C f1 f2 (.ref a :: ([y, z] ++ [])) (upd H a (exo a C none)) (fun v H2 => v = .non ∧ ∃ (d : Addr) (fs : List (Str × V)), H2 a = some (exo a C (some d)) ∧ H2 d = some (exd d fs) ∧ H d = none ∧ Q (.ref C) (some d) (upd (del H2 a) d (.xd fs))) (fun _ _ _ => False) := by
  refine ⟨(by show 2 ≤ 1000; decide), fun a ha => ⟨a, y, z, rfl, T, n1, n2, upd_same, fun d H' hd ne ea ed kp => ⟨rfl, d, _, ea, ed, ?_, ?_⟩⟩⟩
  · rw [upd_ne ne] at hd
    exact hd
  · rw [upd_ne ne] at hd
    refine q d _ hd (fun b o e => ?_) upd_same
    have nba := ne_of_none e ha
    rw [upd_ne (ne_of_none e hd), del_ne nba]
    exact kp b o (by rw [upd_ne nba]; exact e) nba
theorem fin1 {K : PySem.W.Frag} {C : Addr} {f1 : Str} (T : OexC K C) (n1 : PySem.W.findIn K (.ref C) f1 = some none) {H : Hp} {y : V} {Q : XK} (q : ∀ d H', H d = none → Same H H' → H' d = some (.xd [(f1, y)]) → Q (.ref C) (some d) H') :
    [y].length ≤ 1000 ∧ ∀ a, H a = none → spInit1 K C f1 (.ref a :: ([y] ++ [])) (upd H a (exo a C none)) (fun v H2 => v = .non ∧ ∃ (d : Addr) (fs : List (Str × V)), H2 a = some (exo a C (some d)) ∧ H2 d = some (exd d fs) ∧ H d = none ∧ Q (.ref C) (some d) (upd (del H2 a) d (.xd fs))) (fun _ _ _ => False) := by
  refine ⟨(by show 1 ≤ 1000; decide), fun a ha => ⟨a, y, rfl, T, n1, upd_same, fun d H' hd ne ea ed kp => ⟨rfl, d, _, ea, ed, ?_, ?_⟩⟩⟩
  · rw [upd_ne ne] at hd
    exact hd
  · rw [upd_ne ne] at hd
    refine q d _ hd (fun b o e => ?_) upd_same
    have nba := ne_of_none e ha
    rw [upd_ne (ne_of_none e hd), del_ne nba]
    exact kp b o (by rw [upd_ne nba]; exact e) nba
end Kx


set_option maxHeartbeats 4000000
namespace Kx
open PySem PySem.Spec PyProof.Rows L2
/-! enumerate of a tuple -/
theorem meets_enum1 {v : Value} {o : Obj} {H : Heap → Prop} (B : Begins v o H) : Meets (Builtin.«enumerate.__new__» ⟨[.type "enumerate", v], []⟩) (fun _ R s => H s.heap ∧
    R (.ok (.ret (.ref (s.heap.push o).objs.size))) { s with heap := (s.heap.push o).push { cls := .type "enumerate", data := .fields #[.none, .bool false, .ref s.heap.objs.size, rawInt 0, .none, .none] } }) :=
  .of_wp fun prog w A R s got => by
    obtain ⟨hp, g, d, tk, os⟩ := s
    obtain ⟨there, got⟩ := got
    have sub := sub_enumerate
    have step : ∀ {A' : Around} {E : Value → Shared → Prop} {Q : Value → Shared → Prop}, Q (.ref hp.objs.size) ⟨hp.push o, g, d, tk, os⟩ → wpAny (model prog w) A' (pyIter v) Q E ⟨hp, g, d, tk, os⟩ := fun q => B.iter prog w _ _ ⟨hp, g, d, tk, os⟩ _ there q
    wp_walk using step
    refine wpAny_stack_any fun st => wpAny_pure ?_
    split
    · rename_i c _ _ _ _ _
      cases (c == Value.type "enumerate") <;> (wp_walk using step; exact ⟨_, rfl, got⟩)
    · wp_walk using step; exact ⟨_, rfl, got⟩
theorem call_enum1 {prog : Program} {w : World} {A : Around} {E : Value → Shared → Prop} {s : Shared} {v : Value} {o : Obj} {H : Heap → Prop} {Q : Value → Shared → Prop} (B : Begins v o H) (there : H s.heap)
    (next : ∀ h', IsEnum h' (s.heap.objs.size + 1) s.heap.objs.size 0 .none → h'.get? s.heap.objs.size = some o → (∀ b o, s.heap.get? b = some o → h'.get? b = some o) → Q (.ref (s.heap.objs.size + 1)) { s with heap := h' }) :
    wpAny (model prog w) A (call (.type "enumerate") [v]) Q E s := by
  refine callType_new F.called_enumerate (by decide) (F.typeCall_enumerate_1 _) (F.newCall_enumerate_1 _) (fun obj => F.args_object_init_2 obj _) F.entry_enumerate_new (meets_enum1 B) ⟨there, ?_⟩
  have z : (s.heap.push o).objs.size = s.heap.objs.size + 1 := Heap.size_push ..
  show _ ∧ _
  rw [z]
  have he : IsEnum ((s.heap.push o).push { cls := .type "enumerate", data := .fields #[.none, .bool false, .ref s.heap.objs.size, rawInt 0, .none, .none] }) (s.heap.objs.size + 1) s.heap.objs.size 0 .none := by
    have q := Heap.get?_push_size (s.heap.push o) (o := { cls := .type "enumerate", data := .fields #[.none, .bool false, .ref s.heap.objs.size, rawInt 0, .none, .none] }) rfl
    rw [z] at q
    exact q
  exact ⟨⟨_, he, rfl⟩, next _ he (Heap.get?_push_of_some _ (Heap.get?_push_size _ B.free)) fun b o x => Heap.get?_push_of_some _ (Heap.get?_push_of_some _ x)⟩
/-- the tuple at a, each item in a new pair -/
def IteT (K : PySem.W.Frag) (a : Addr) : It :=
  ⟨fun i H => ∃ (xs : List V) (x : V), SqT K H a xs ∧ xs[i]? = some x, fun i H v H' => ∃ T x, v = .ref T ∧ H T = none ∧ H' = upd H T (.tup [.int (i : Nat), x]) ∧ ∀ xs, SqT K H a xs → xs[i]? = some x, fun i H => ∃ xs : List V, SqT K H a xs ∧ xs.length = i⟩
theorem turn_enumT {P : Program} {w : World} {K : PySem.W.Frag} {elts : List Expr} {kk : Nat} {tpos : Pos} (a e it : Addr) :
    Turn P w K (.Tuple elts kk tpos) (IteT K a) [e, it] e (fun i h => (∃ old, IsEnum h e it ((i : Nat) : Int) old) ∧ h.IsTupleIter it a i ∧ e ≠ it ∧ a ≠ it ∧ a ≠ e) where
  mem := by simp
  obj := fun i h st b hb => by
    obtain ⟨⟨old, he⟩, ⟨o, ho, hc, hd⟩, _⟩ := st
    have e' : b = e ∨ b = it := by simpa using hb
    rcases e' with z | z <;> rw [z]
    · exact ⟨_, he, fun v q => nomatch q⟩
    · exact ⟨o, ho, fun v q => by rw [hd] at q; cases q⟩
  keep := fun i h h' st k => let ⟨⟨old, he⟩, hi, r⟩ := st; ⟨⟨old, k e (by simp) _ he⟩, hi.at fun o q => k it (by simp) o q, r⟩
  item := by
    rintro X rfl rfl rfl hc i pins s σ H E I hf ⟨⟨old, he⟩, hit, hne, hai, hae⟩ ⟨xs, x, hq, hx⟩
    obtain ⟨its, rv, p, hz⟩ := I.tuple hq
    obtain ⟨u, hu, ru⟩ := rv.get hx
    have hel : e < s.heap.objs.size := Heap.lt_size he
    have hil : it < s.heap.objs.size := by obtain ⟨_, q, _⟩ := hit; exact Heap.lt_size q
    have lt : i < its.toArray.size := by simpa using (List.getElem?_eq_some_iff.mp hu).1
    have D := Draws.tuple (prog := X.prog) (w := X.w) (A := X.A.in1) (I.ok.hd hc) it a hai its.toArray
    refine wpAny_pyNext_enum_itemC D he ⟨hit, p⟩ lt hne (by simp [hne, hae.symm]) fun v h' tk hv ho st' hT hsz hk => ?_
    obtain rfl : v = u := by
      have q : its.toArray[i]? = some v := hv
      rw [List.getElem?_toArray, hu] at q
      exact (Option.some.inj q).symm
    refine ⟨_, rfl, wpAny_letOwnedTupleGo_enum (s := { s with heap := h', toks := tk + 1 }) ho fun h'' he' sb => ?_⟩
    have hT2 : h''.get? s.heap.objs.size = some { cls := .type "tuple", data := .seq #[.int i tk, v] } := (sb.2 _ (Nat.ne_of_gt hel)).trans hT
    have new : ObjOk X.prog X.w (upd H s.heap.objs.size (.tup [.int (i : Nat), x])) h'' s.heap.objs.size (.tup [.int (i : Nat), x]) := ⟨by show 2 ≤ sizeLine; decide, [.int i tk, v], .cons ⟨_, rfl⟩ (.cons ru .nil), ⟨_, hT2, rfl, _, rfl⟩⟩
    have I1 : Inv X pins σ (upd H s.heap.objs.size (.tup [.int (i : Nat), x])) { s with heap := h'', toks := tk + 1 } :=
      I.turnedNew (ch := [e, it]) (fun b ob hb q => (sb.2 b (fun z => hb (by simp [z]))).trans (hk b ob (fun z => hb (by simp [z])) (fun z => hb (by simp [z])) q)) hf (Nat.le_refl _) new
    refine ⟨.ref s.heap.objs.size, _, I1, rfl, ⟨_, x, rfl, I.hok.fresh (Nat.le_refl _), rfl, fun ys hy => ?_⟩, ⟨⟨v, he'⟩, st'.1.at fun o q => (sb.2 it (Ne.symm hne)).trans q, hne, hai, hae⟩, fun b hb => ?_⟩
    · rw [I.tuple_inj hy hq]
      exact hx
    · have lt : b < s.heap.objs.size := by
        have e' : b = e ∨ b = it := by simpa using hb
        rcases e' with z | z <;> rw [z]
        · exact hel
        · exact hil
      rw [upd_ne (Nat.ne_of_lt lt)]
      exact (hf b hb).1
  done := by
    rintro X rfl rfl rfl hc i pins s σ H E I hf ⟨⟨old, he⟩, hit, hne, hai, hae⟩ ⟨xs, hq, hx⟩
    obtain ⟨its, rv, p, hz⟩ := I.tuple hq
    obtain ⟨f0, f1, f2, f3, f4, f5⟩ := hf it (by simp)
    have hl := rv.length
    have D := Draws.tuple (prog := X.prog) (w := X.w) (A := X.A.in1) (I.ok.hd hc) it a hai its.toArray
    have n : its.toArray.size = i := by rw [List.size_toArray, ← hl, hx]
    rw [n] at D
    exact wpAny_pyNext_enum_endD D he ⟨hit, p⟩ fun h' eb => ⟨rfl, I.turned (t' := s.toks) (fun b o hb q => eb b o hb q) f0 f1 f3 f4 f5⟩
  self := fun A i s Q E st h => let ⟨⟨_, he⟩, _⟩ := st; wpAny_pyIter_enum he h
/-- enumerate of a list or a tuple -/
def iEnumB (K : PySem.W.Frag) (ta : TA) : TI := fun σ H R => ta σ H fun vs H1 => ∃ a xs, vs = [.ref a] ∧ ((SqL K H1 a xs ∧ R (Ite K a) H1) ∨ (SqT K H1 a xs ∧ R (IteT K a) H1))
theorem pi_enumB {X : Cx} {e : Expr} {ta : TA} {p pos tpos : Pos} {elts : List Expr} {kk : Nat} (hg : Gl X "enumerate") (hm : X.mg "enumerate" = none) (ha : PA X [e] ta) (hs : starEach [e] X.env = [(false, eval e X.env)] := by rfl) :
    PI X (.Tuple elts kk tpos) (.Call (.Name "enumerate" p) [e] [] pos) (iEnumB X.K ta) := by
  refine ⟨fun pins s σ H R I h => Call_ (ld_blt I hg hm boot_enumerate (callWith_type1 (thn (ha.run pos pins s σ H _ I h) fun us s1 ⟨vs, H1, I1, r1, q1⟩ => ?_) hs rfl))⟩
  obtain ⟨a, xs, rfl, q⟩ := q1
  rw [Vals.ref1 r1]
  have fresh : ∀ {h' : Heap}, (∀ b o, s1.heap.get? b = some o → h'.get? b = some o) → Inv X pins σ H1 { s1 with heap := h' } := fun hk => I1.kept (t' := s1.toks) hk
  have fp : ∀ b ∈ [s1.heap.objs.size + 1, s1.heap.objs.size], FpOk X pins H1 b := fun b hb => by
    have e' : b = s1.heap.objs.size + 1 ∨ b = s1.heap.objs.size := by simpa using hb
    have le : s1.heap.objs.size ≤ b := by
      rcases e' with z | z <;> rw [z]
      · exact Nat.le_succ _
      · exact Nat.le_refl _
    exact I1.fpOk le (I1.hok.fresh le)
  rcases q with ⟨hq, q⟩ | ⟨hq, q⟩
  · obtain ⟨its, rv, pl, hz⟩ := I1.list hq
    exact call_enumerate_list pl.isList fun h' he hit hsz hk => wpAny_pyIter_enum he ⟨_, _, _, _, H1, rfl, fresh hk, turn_enum a (s1.heap.objs.size + 1) s1.heap.objs.size, ⟨⟨.none, he⟩, hit, Nat.succ_ne_self _⟩, fp, q⟩
  · obtain ⟨its, rv, pl, hz⟩ := I1.tuple hq
    obtain ⟨oa, ho, _⟩ := id pl
    have lt : a < s1.heap.objs.size := Heap.lt_size ho
    exact call_enum1 (begins_tuple a its.toArray) pl fun h' he hit hk => wpAny_pyIter_enum he ⟨_, _, _, _, H1, rfl, fresh hk, turn_enumT a (s1.heap.objs.size + 1) s1.heap.objs.size, ⟨⟨.none, he⟩, ⟨_, hit, rfl, rfl⟩, Nat.succ_ne_self _, Nat.ne_of_lt lt, Nat.ne_of_lt (Nat.lt_succ_of_lt lt)⟩, fp, q⟩
/-- what a for loop over J asks -/
abbrev Runs (J : It) (g : TG) (tb : TS) (D : Ends) (σ : L2.St) (H : Hp) : Prop := ∃ U : Nat → Nat → L2.St → Hp → Prop, (∃ m, U 0 m σ H) ∧ ∀ i m σ H, U i m σ H → (J.stop i H ∧ D.nx σ H) ∨ (J.go i H ∧ ∃ N : L2.St → Hp → Prop, (∀ σ' H', N σ' H' → ∃ m', m' < m ∧ U (i + 1) m' σ' H') ∧
  ∀ x H', J.yld i H x H' → g x σ H' fun σ2 H2 => tb { D with nx := N, ct := N, bk := D.nx } σ2 H2)
/-- over enumerate of a list or a tuple that stands still -/
theorem for_enumB {K : PySem.W.Frag} {a : Addr} {xs : List V} {g : TG} {tb : TS} {D : Ends} {σ : L2.St} {H : Hp} (W : Nat → L2.St → Hp → Prop) (start : W 0 σ H) (still : (∀ i σ H, W i σ H → SqL K H a xs) ∨ (∀ i σ H, W i σ H → SqT K H a xs))
    (turn : ∀ i x σ H T, xs[i]? = some x → W i σ H → H T = none → g (.ref T) σ (upd H T (.tup [.int (i : Nat), x])) fun σ2 H2 => tb { D with nx := W (i + 1), ct := W (i + 1), bk := D.nx } σ2 H2) (after : ∀ σ H, W xs.length σ H → D.nx σ H) :
    (SqL K H a xs ∧ Runs (Ite K a) g tb D σ H) ∨ (SqT K H a xs ∧ Runs (IteT K a) g tb D σ H) := by
  rcases still with still | still
  · refine .inl ⟨still _ _ _ start, fun i m σ H => m + i = xs.length ∧ W i σ H, ⟨xs.length, by omega, start⟩, fun i m σ H u => ?_⟩
    obtain ⟨e, u⟩ := u
    cases m with
    | zero =>
      obtain rfl : i = xs.length := by omega
      exact .inl ⟨⟨xs, still _ _ _ u, Nat.le_refl _⟩, after _ _ u⟩
    | succ m =>
      have lt : i < xs.length := by omega
      refine .inr ⟨⟨xs, xs[i], still _ _ _ u, List.getElem?_eq_getElem lt⟩, W (i + 1), fun σ' H' u' => ⟨m, Nat.lt_succ_self _, by omega, u'⟩, fun x H' y => ?_⟩
      obtain ⟨T, z, rfl, free, rfl, same⟩ := y
      exact turn i z σ H T (same xs (still _ _ _ u)) u free
  · refine .inr ⟨still _ _ _ start, fun i m σ H => m + i = xs.length ∧ W i σ H, ⟨xs.length, by omega, start⟩, fun i m σ H u => ?_⟩
    obtain ⟨e, u⟩ := u
    cases m with
    | zero =>
      obtain rfl : i = xs.length := by omega
      exact .inl ⟨⟨xs, still _ _ _ u, rfl⟩, after _ _ u⟩
    | succ m =>
      have lt : i < xs.length := by omega
      refine .inr ⟨⟨xs, xs[i], still _ _ _ u, List.getElem?_eq_getElem lt⟩, W (i + 1), fun σ' H' u' => ⟨m, Nat.lt_succ_self _, by omega, u'⟩, fun x H' y => ?_⟩
      obtain ⟨T, z, rfl, free, rfl, same⟩ := y
      exact turn i z σ H T (same xs (still _ _ _ u)) u free
end Kx

set_option maxHeartbeats 4000000
namespace Kx
open PySem PySem.Spec PyProof.Rows L2
section
variable {X : Cx} {C g : Addr} {sp : Sp} {E : XK} {CXx : CXT} {n : Nat}
/-- an instance as the library's lemmas know it -/
theorem inst_of {pins : List (Addr × Obj)} {σ : L2.St} {H : Hp} {s : Shared} {a dx : Addr} {fs : List (Str × V)} (I : Inv X pins σ H s) (h : H a = some (.ins C dx fs)) : ∃ ox od, PySem.W.InstAt s.heap a ox C od := by
  obtain ⟨mA, J, _⟩ := ins_get I.hok h
  obtain ⟨od, J, _⟩ := J.look
  exact ⟨_, _, J⟩
/-- x in o, o an instance whose class has its own __contains__ -/
def rInOwn (neg : Bool) (C : Addr) (sp : Sp) (E : XK) : R2 := fun x y H Q => ∃ a dx fs, y = .ref a ∧ H a = some (.ins C dx fs) ∧ sp [.ref a, x] H (fun z H' => ∃ b, z = .bl b ∧ Q (.bl (if neg then !b else b)) H') E
/-- len(o) by an own __len__ -/
def rLenOwn (C : Addr) (sp : Sp) (E : XK) : List V → Hp → VK → Prop := fun xs H Q => ∃ a dx fs, xs = [.ref a] ∧ H a = some (.ins C dx fs) ∧ sp [.ref a] H (fun z H' => ∃ k : Int, z = .int k ∧ 0 ≤ k ∧ k < 2 ^ 63 ∧ Q (.int k) H') E
/-- o == y by an own __eq__, y any thing that is not of a class below -/
def rEqOwn (K : PySem.W.Frag) (C : Addr) (sp : Sp) (E : XK) : R2 := fun x y H Q => ∃ a dx fs, x = .ref a ∧ H a = some (.ins C dx fs) ∧ ((∃ b dy gs C', y = .ref b ∧ H b = some (.ins C' dy gs) ∧ PySem.W.notFirst K C (.ref C') = true) ∨ (∃ b ys, y = .ref b ∧ H b = some (.tup ys) ∧ PySem.W.notFirst K C (.type "tuple") = true)) ∧
  sp [.ref a, y] H (fun z H' => ∃ b, z = .bl b ∧ Q (.bl b) H') E
end
/-! != by the own __eq__ -/
section
variable {prog : Program} {w : World} {A : Around} {Er : Value → Shared → Prop} {s : Shared} {K : PySem.W.Frag} {x D f : Addr} {ox : Obj} {od : Option Obj} {b tb : Value}
theorem bound_ne {M : Model} {args : List Value} {Q : Option Value → Shared → Prop} (Y : K.In s.heap) (J : PySem.W.InstAt s.heap x ox D od) (hs : PySem.W.findIn K (.ref D) "__ne__" = some (some (.builtin "object.__ne__")))
    (h : wpAny M A (call (.builtin "object.__ne__") (.ref x :: args)) (fun v => Q (some v)) Er s) : wpAny M A (callSpecialIfBound? (.ref x) "__ne__" args) Q Er s := by
  simp only [callSpecialIfBound?, bindSpecialIfBound?]
  refine wpAny_holding (wpAny_bind (wpAny_bind (wpAny_bind (J.type.here ((PySem.W.looks_findIn Y hs).here (wpAny_bind (wpAny_askSetting (wpAny_ite ?_))))))))
  have fin : wpAny M A (call (.builtin "object.__ne__") ([.ref x] ++ args) >>= fun v => pure (some v)) Q Er s := wpAny_bind (wpAny_mono h (fun v s' z => wpAny_pure z) fun _ _ z => z)
  split
  · exact wpAny_bind (wpAny_of_eq (F.cmp_object.ne.bind _) (wpAny_pure (by exact fin)))
  · exact wpAny_tryCatch (wpAny_bind (wpAny_of_eq (F.cmp_object.ne.bind _) (wpAny_pure (by exact fin))))
/-- what the own __eq__ hands back, turned about -/
def NeBack (Q : Value → Shared → Prop) (v : Value) (s' : Shared) : Prop := match v with
  | .bool c => Q (.bool (!c)) s'
  | _ => False
theorem call_ne {Q : Value → Shared → Prop} (hu : A.units + 64 < cLine) (Y : K.In s.heap) (J : PySem.W.InstAt s.heap x ox D od) (hm : PySem.W.mroIn K D (.type "object") = some true) (he : PySem.W.findIn K (.ref D) "__eq__" = some (some (.ref f))) (hf : PySem.W.isFn K (.ref f) = true)
    (h : wpAny (model prog w) A.in1 (call (.ref f) [.ref x, b]) (NeBack Q) Er s) : wpAny (model prog w) A (call (.builtin "object.__ne__") [.ref x, b]) Q Er s := by
  refine wpAny_call (codeAny_call_builtin F.cmp_object.ne.plain F.cmpEntry_ne (PySem.W.check_slot F.cmpKind_ne F.cmpSplit_ne (J.type.andThen (PySem.W.looks_mroIn Y hm)) (F.cmpArgs_ne _ _) ?_))
  unfold Builtin.«object.__ne__»
  refine wpAny_bind (m := slotArgs "__ne__" 1 _) (wpAny_of_eq (a := (Value.ref x, [b])) rfl ?_)
  dsimp only
  refine wpAny_bind (wpAny_cRoomFor (A := A.in1) (by show A.units + 1 < cLine; omega) ?_)
  refine wpAny_bind (PySem.W.ifBound_K Y J he hf (wpAny_mono h (fun v s' hv => ?_) fun _ _ z => z))
  cases v with
  | bool c => exact wpAny_bind (wpAny_truthy_bool (wpAny_pure hv))
  | _ => exact hv.elim
theorem rich_ne {h₀ : Heap} {L : Addr} {m : Str → Option Value} {Q : Value → Shared → Prop} (hu : A.units + 64 < cLine) (F₀ : Fr h₀ L s.heap m) (X₀ : K.In h₀) (J : PySem.W.InstAt s.heap x ox D od) (hb : PySem.W.Looks (model prog w) s.heap (typeOf b) tb) (hn : PySem.W.notFirst K D tb = true)
    (hm : PySem.W.mroIn K D (.type "object") = some true) (hne : PySem.W.findIn K (.ref D) "__ne__" = some (some (.builtin "object.__ne__"))) (he : PySem.W.findIn K (.ref D) "__eq__" = some (some (.ref f))) (hf : PySem.W.isFn K (.ref f) = true)
    (h : wpAny (model prog w) A.in1 (call (.ref f) [.ref x, b]) (NeBack Q) Er s) : wpAny (model prog w) A (richCompare .NotEq (.ref x) b) Q Er s := by
  have Y := X₀.keeps F₀.keep
  have one : wpAny (model prog w) A (tryCompare (.ref x) "__ne__" b) (fun r s' => ∃ c, r = some (.bool c) ∧ Q (.bool c) s') Er s := by
    unfold tryCompare
    refine wpAny_bind (bound_ne Y J hne (call_ne hu Y J hm he hf (wpAny_mono h (fun v s' hv => ?_) fun _ _ z => z)))
    cases v with
    | bool c => exact wpAny_pure ⟨!c, rfl, hv⟩
    | _ => exact hv.elim
  unfold richCompare
  simp only [oneThing_ref]
  refine wpAny_holding (wpAny_bind (wpAny_cRoomFor (by omega) (wpAny_bind (J.type.here (wpAny_bind (hb.here ?_))))))
  have fin : ∀ (r : Option Value) (s' : Shared), (∃ c, r = some (.bool c) ∧ Q (.bool c) s') → ∃ c, r = some (.bool c) ∧ Q (.bool c) s' := fun _ _ z => z
  split
  · rename_i q
    have e : PySem.W.subIn K tb (.ref D) = some false := by
      rcases Bool.or_eq_true_iff.mp hn with e | e
      · rw [beq_iff_eq.mp e] at q; simp at q
      · exact beq_iff_eq.mp e
    refine wpAny_bind ((PySem.W.looks_subIn Y e).here ?_)
    simp only [Bool.false_eq_true, if_false]
    refine wpAny_bind (wpAny_mono one (fun r s' z => ?_) fun _ _ e => e)
    obtain ⟨v, rfl, hq⟩ := fin r s' z
    exact wpAny_pure hq
  · refine wpAny_bind (wpAny_pure ?_)
    simp only [Bool.false_eq_true, if_false]
    refine wpAny_bind (wpAny_mono one (fun r s' z => ?_) fun _ _ e => e)
    obtain ⟨v, rfl, hq⟩ := fin r s' z
    exact wpAny_pure hq
end
section
variable {X : Cx} {C g : Addr} {sp : Sp} {E : XK} {CXx : CXT} {n : Nat}
/-- o != y by an own __eq__, both of one class -/
def rNeOwn (C : Addr) (sp : Sp) (E : XK) : R2 := fun x y H Q => ∃ a dx fs b dy gs, x = .ref a ∧ H a = some (.ins C dx fs) ∧ y = .ref b ∧ H b = some (.ins C dy gs) ∧ sp [.ref a, .ref b] H (fun z H' => ∃ c, z = .bl c ∧ Q (.bl (!c)) H') E
end
end Kx

set_option maxHeartbeats 4000000
namespace Kx
open PySem PySem.Spec PyProof.Rows L2
/-! tuple(dict): the keys in order -/
section
variable {prog : Program} {w : World} {A : Around} {E : Value → Shared → Prop} {s : Shared} {d : Addr} {n : Nat} {P : Nat → Value → Prop} {OK : Heap → Prop}
end
def rTupD : List V → Hp → VK → Prop := fun xs H Q => ∃ p kvs, xs = [.ref p] ∧ H p = some (.dK kvs) ∧ ∀ q, H q = none → Q (.ref q) (upd H q (.tup (kvs.map fun kv => kV kv.1)))
end Kx

set_option maxHeartbeats 4000000
namespace Kx
open PySem PySem.Spec PySem.Calls PyProof.Rows PySem.W
section
variable {prog : Program} {w : World} {A : Around} {E : Value → Shared → Prop} {s : Shared} {K : Frag} {x D : Addr} {ox : Obj}
theorem findObj_dataO {C : Addr} {od : Option Obj} {name : Str} {a g : Value} (hc : (clsIn K C).isSome = true) (ha : findIn K (.ref C) name = some (some a)) (hg : specialIn K a "__get__" = some (some g)) (ht : takesIn K a = some true) : findObj K C od name = some (.bind g a) := by
  obtain ⟨cd, hc⟩ := Option.isSome_iff_exists.mp hc
  unfold findObj
  rw [hc, Option.bind_some, ha, Option.bind_some]
  simp [hg, ht]
theorem kin_classO {od : Option Obj} {Q : Option Value → Shared → Prop} (hga : findIn K (.ref D) "__getattribute__" = some (some (.builtin "BaseException.__getattribute__"))) (hgt : findIn K (.ref D) "__getattr__" = some none) (hsub : subIn K (.ref D) (.type "BaseException") = some true)
    (hdct : hasDictIn K D = true) (ha : findIn K (.ref D) "__class__" = some (some (.builtin "object.__class__")))
    (hn : specialIn K (.builtin "object.__class__") "__get__" = some (some (.builtin "getset_descriptor.__get__"))) (htk : takesIn K (.builtin "object.__class__") = some true) (hm : mroIn K D (.type "object") = some true)
    (X : K.In s.heap) (I : InstAt s.heap x ox D od) (h : Q (some (.ref D)) { s with toks := s.toks + 1 }) : wpAny (model prog w) A (getAttr? (.ref x) "__class__") Q E s := by
  have hf : findObj K D od "__class__" = some (.bind (.builtin "getset_descriptor.__get__") (.builtin "object.__class__")) := findObj_dataO (by obtain ⟨cd, hc, _⟩ := any_some hdct; rw [hc]; rfl) ha hn htk
  obtain ⟨hp, g, d, t, os⟩ := s
  have L0 := I.type (M := model prog w)
  have L1 := looks_findIn (M := model prog w) X hga
  have L2 := looks_findIn (M := model prog w) X hgt
  have L3 := looks_find (M := model prog w) X I hf
  have sub : Looks (model prog w) hp (isInstance (.ref x) (.type "BaseException")) true := L0.andThen (looks_subIn X hsub)
  have hx0 : (false && onTheHeap (Value.builtin "BaseException.__getattribute__")) = false := rfl
  have hx2 : (Value.builtin "BaseException.__getattribute__" == Value.builtin "object.__getattribute__") = false := by decide +kernel
  have hx1 : (onTheHeap (Value.ref D) && Value.builtin "BaseException.__getattribute__" == Value.builtin "object.__getattribute__") = false := by rw [hx2]; rfl
  unfold getAttr? getAttrBy? getAttrBy
  refine wpAny_bind (wpAny_mkText (wpAny_bind (wpAny_attempt (wpAny_holding (wpAny_bind (L0.at (wpAny_bind (L1.at ?_))))))))
  show wpAny _ _ (if (onTheHeap (Value.ref D) && Value.builtin "BaseException.__getattribute__" == Value.builtin "object.__getattribute__") = true then _ else _) _ _ _
  rw [hx1, if_neg Bool.false_ne_true]
  unfold getAttrByItsOwn hookBefore
  refine wpAny_bind ?_
  rw [if_pos (show onTheHeap (Value.ref D) = true from rfl)]
  refine L2.at ?_
  refine wpAny_bind (wpAny_attempt (wpAny_holding ?_))
  unfold callGetattribute
  rw [hx0, if_neg Bool.false_ne_true]
  unfold boundAndCalled
  rw [PySem.F.excAttr_ValueError.ga.bind (.ref x)]
  refine wpAny_bind (wpAny_pure ?_)
  show wpAny _ _ (call (.builtin "BaseException.__getattribute__") [.ref x, .str "__class__" t]) _ _ _
  refine wpAny_call (codeAny_call_builtin PySem.F.excAttr_ValueError.ga.plain PySem.F.entry_bexc_ga ?_)
  refine @check_slot (model prog w) _ _ ⟨hp, g, d, t + 1, os⟩ "BaseException.__getattribute__" "BaseException" "__getattribute__" (.ref x) [.str "__class__" t] [] _ (by decide +kernel) (by decide +kernel) sub (PySem.F.args_bexc_ga (.ref x) (.str "__class__" t)) ?_
  unfold Builtin.«object.__getattribute__»
  refine wpAny_bind (wpAny_of_eq (a := ((Value.ref x : Value), [Value.str "__class__" t])) (by first | rfl | (simp only [slotArgs]; rfl)) ?_)
  refine wpAny_bind (wpAny_pure (wpAny_bind (L0.at (wpAny_bind (L3.at ?_)))))
  show wpAny _ _ (holding [Value.builtin "object.__class__"] (call (.builtin "getset_descriptor.__get__") [.builtin "object.__class__", .ref x, .ref D]) >>= ret) _ _ _
  refine wpAny_bind (wpAny_holding (wpAny_call (class_get (s := ⟨hp, g, d, t + 1, os⟩) (ox := ox) (od := od) X I hm ?_)))
  refine wpAny_pure ?_
  show wpAny _ _ (handedOut (.ref D)) _ _ _
  rw [handedOut_of (v := .ref D) rfl]
  first
    | exact wpAny_pure (wpAny_pure h)
    | exact wpAny_pure h
    | exact wpAny_pure (wpAny_bind (wpAny_pure (wpAny_pure h)))
theorem kitx_excO {od : Option Obj} (hga : findIn K (.ref D) "__getattribute__" = some (some (.builtin "BaseException.__getattribute__"))) (hgt : findIn K (.ref D) "__getattr__" = some none) (hsub : subIn K (.ref D) (.type "BaseException") = some true) (hdct : hasDictIn K D = true) (ha : findIn K (.ref D) "__class__" = some (some (.builtin "object.__class__")))
    (hn : specialIn K (.builtin "object.__class__") "__get__" = some (some (.builtin "getset_descriptor.__get__"))) (htk : takesIn K (.builtin "object.__class__") = some true) (hm : mroIn K D (.type "object") = some true) :
    KitX K (.ref x) (.ref D) (fun h => InstAt h x ox D od) where
  ty := fun _ _ _ I => I.type
  it := fun _ _ X _ => by
    obtain ⟨cdD, hcD, _⟩ := any_some hdct
    unfold clsIn at hcD
    split at hcD
    · rename_i c' d' cd' sl' ho
      intro A' Q' E' s' k q
      unfold isType loadHead
      exact wpAny_bind (wpAny_loadPart (k _ _ (X _ _ ho)) (wpAny_pure q))
    · cases hcD
  ne := fun h tp dd its n sl X htp => by
    obtain ⟨cdD, hcD, _⟩ := any_some hdct
    refine Bool.eq_false_iff.mpr fun q => ?_
    have e : D = tp := Value.ref.inj (beq_iff_eq.mp q)
    subst e
    unfold clsIn at hcD
    split at hcD
    · rename_i c' d' cd' sl' ho
      have z := (X _ _ ho).symm.trans htp
      cases z
    · cases hcD
  ca := fun X I k => kin_classO hga hgt hsub hdct ha hn htk hm X I k
end
end Kx
namespace Kx
open PySem PySem.Spec PyProof.Rows L2
/-- isinstance(e, c), e a caught error that has fields -/
def rIsEd (K : PySem.W.Frag) (a : Addr) (cls : Value) (d : Option Addr) (D : Addr) : List V → Hp → VK → Prop := fun xs H Q => cls = .ref D ∧ (d = none ∨ ∃ (dd : Addr) (fs : List (Str × V)), d = some dd ∧ H dd = some (.xd fs)) ∧ rIsE K D a xs H Q
theorem call_isEd {X : Cx} {K : PySem.W.Frag} {a D : Addr} {oe : Obj} {cls : Value} {d : Option Addr} {pn : List (Addr × Obj)} (hK : X.K = K) (C : ExcC K D) (hz : Zc cls d oe) (hf : ∃ vs, oe.data = .fields vs) : CallR (X.suite a ((a, oe) :: pn)) (.builtin "isinstance") (rIsEd K a cls d D) := by
  subst hK
  intro pins s σ H xs us Q I r h
  obtain ⟨hcl, hd, c, cv, b, rfl, hcv, e, q⟩ := h
  subst hcl
  cases r with
  | cons rx rr =>
    cases rr with
    | cons rt rr =>
      cases rr
      cases rx
      have ec := hcv _ rt
      subst ec
      obtain ⟨hget, _⟩ := I.pin (a, oe) (List.mem_append.mpr (.inl List.mem_cons_self))
      obtain ⟨vs, hv⟩ := hf
      have J : ∃ od, PySem.W.InstAt s.heap a oe D od := by
        rcases hd with hd | ⟨dd, fs, hd, he⟩
        · subst hd
          obtain ⟨oc, od, oda, osl⟩ := oe
          obtain ⟨h1, h2⟩ := hz
          dsimp only at h1 h2 hv
          subst h1 h2 hv
          exact ⟨none, hget, rfl, rfl, trivial⟩
        · subst hd
          obtain ⟨mA, hns, hr⟩ := (show ObjOk X.prog X.w H s.heap dd (.xd fs) from I.hok dd _ he)
          obtain ⟨od, ho, hl⟩ := lookIn_ns hns
          exact ⟨some od, hget, hz.1, by unfold PySem.W.notCls; rw [hv] <;> rfl, by rw [hz.2]; exact ho⟩
      obtain ⟨od, J⟩ := J
      exact PySem.W.kia_one (kitx_excO C.hg C.hk C.hs C.hd C.ha C.hn C.ht C.hm) I.kIn J e (fun z => nomatch z) fun tk => ⟨.bl b, H, I.kept (t' := tk) fun _ _ z => z, rfl, q⟩
end Kx

set_option maxHeartbeats 4000000
namespace Kx
open PySem PySem.Spec PyProof.Rows L2
/-! two lists of whatever things: of other lengths, or with the very same things at each place -/
section
variable {X : Cx}
def rNeL (K : PySem.W.Frag) : R2 := fun x y H Q => ∃ a b xs ys, x = .ref a ∧ y = .ref b ∧ SqL K H a xs ∧ SqL K H b ys ∧ ((xs.length ≠ ys.length ∧ Q (.bl true) H) ∨ (xs = ys ∧ (∀ z ∈ xs, flatV z = true ∨ ∃ c, z = .ref c) ∧ Q (.bl false) H))
end
end Kx

set_option maxHeartbeats 4000000
namespace Kx
open PySem L2
/-! rows of kinds: what is asked of them, in plain words -/
/-- a thing that is asked about: its kind, and its text is of known length -/
structure Thing (H : Hp) (x : V) (n : String) : Prop where
  kd : Kd H x n
  fine : ∀ z, x = .str z → PyData.strOk z = true ∧ z.length ≤ 900
theorem Thing.keep {H H' : Hp} {x : V} {n : String} (t : Thing H x n) (s : Same H H') : Thing H' x n := ⟨t.kd.keep s, t.fine⟩
/-- a row, as it stands: a pair, or no sequence of two -/
inductive RowIs (H : Hp) : V → Option (V × V) → Prop where
  | lst {b : Addr} {n a : V} {t u : String} (h : H b = some (.lst [n, a])) (hn : Thing H n t) (ha : Thing H a u) : RowIs H (.ref b) (some (n, a))
  | tup {b : Addr} {n a : V} {t u : String} (h : H b = some (.tup [n, a])) (hn : Thing H n t) (ha : Thing H a u) : RowIs H (.ref b) (some (n, a))
  | lstN {b : Addr} {xs : List V} (h : H b = some (.lst xs)) (l : xs.length ≠ 2) : RowIs H (.ref b) none
  | tupN {b : Addr} {xs : List V} (h : H b = some (.tup xs)) (l : xs.length ≠ 2) : RowIs H (.ref b) none
  | oth {y : V} {n : String} (h : Kd H y n) (l : seqV n = false) : RowIs H y none
theorem RowIs.keep {H H' : Hp} {y : V} {r : Option (V × V)} (h : RowIs H y r) (s : Same H H') : RowIs H' y r := by
  cases h with
  | lst h hn ha => exact .lst (s _ _ h) (hn.keep s) (ha.keep s)
  | tup h hn ha => exact .tup (s _ _ h) (hn.keep s) (ha.keep s)
  | lstN h l => exact .lstN (s _ _ h) l
  | tupN h l => exact .tupN (s _ _ h) l
  | oth h l => exact .oth (h.keep s) l
theorem RowIs.kd {H : Hp} {y : V} {r : Option (V × V)} (h : RowIs H y r) : ∃ n, Kd H y n ∧ (seqV n = false → r = none) := by
  cases h with
  | lst h hn ha => exact ⟨_, .lst _ _ h, fun z => nomatch z⟩
  | tup h hn ha => exact ⟨_, .tup _ _ h, fun z => nomatch z⟩
  | lstN h l => exact ⟨_, .lst _ _ h, fun _ => rfl⟩
  | tupN h l => exact ⟨_, .tup _ _ h, fun _ => rfl⟩
  | oth h l => exact ⟨_, h, fun _ => rfl⟩
theorem lab_str {n : V} (h : labV n = true) : ∃ z, n = .str z ∧ isLab z = true := by
  cases n with
  | str z => exact ⟨z, rfl, h⟩
  | _ => cases h
def wordV : Option Str → V
  | none => .non
  | some w => .str w
section
variable {P : Program} {w : World} {K : PySem.W.Frag} {mg : Str → Option Value} {base : Heap}
end
end Kx


set_option maxHeartbeats 4000000
namespace Kx
open PySem PySem.Spec PyProof.Rows L2
section
variable {X : Cx} {CX : CXT} {k : Nat} {f C : Addr} {fd : FuncData} {ps : List Str} {sp : Sp} {x m : Str} {p pos apos : Pos} {e o : Expr} {es : List Expr} {t : TA} {ta : TE} {Ew : L2.St → XK}
/-- C(..) that may be refused, what is wished then depending on the slots -/
theorem run_makeS {pins : List (Addr × Obj)} {σ : L2.St} {H : Hp} {s : Shared} {Q : VK} {us : List Value} {vs : List V} (M : Mk X.K C f) (F : FnOk X.prog X.w X.K X.mg X.base CX k f fd ps sp) (hr : Room (k + 1) X.A) (hb : Binds X.K fd ps [])
    (hx : PassesAt CX X σ (Ew σ)) (I : Inv X pins σ H s) (r : Vals vs us)
    (h : ∀ x dx, H x = none → H dx = none → dx ≠ x → sp (.ref x :: vs) (upd (upd H dx (.own x)) x (.ins C dx [])) (fun v H2 => v = .non ∧ Q (.ref x) H2) (Ew σ)) :
    wpAny (model X.prog X.w) X.A (call (.ref C) us) (EP X pins σ Q) X.xe s := by
  have hq := h (s.heap.objs.size + 1) s.heap.objs.size (I.hok.fresh (Nat.le_succ _)) (I.hok.fresh (Nat.le_refl _)) (Nat.ne_of_lt (Nat.lt_succ_self _))
  have J := Inv.made (C := C) I
  have r2 : Vals (V.ref (s.heap.objs.size + 1) :: vs) (Value.ref (s.heap.objs.size + 1) :: us) := .cons rfl r
  have hl : (Value.ref (s.heap.objs.size + 1) :: us ++ []).length = ps.length := by
    have e := r2.length
    rw [F.len _ _ _ _ hq] at e
    rw [List.append_nil]
    exact e.symm
  have bd := hb _ (Value.ref (s.heap.objs.size + 1) :: us) J.kIn hl
  rw [List.append_nil] at bd
  refine wpAny_call (make_map (f := f) I.kIn M.makes M.init (beq_iff_eq.mp M.fn) (codeAny_mono (F.run _ X.stack _ _ ⟨Value.ref (s.heap.objs.size + 1) :: us, []⟩ (Value.ref (s.heap.objs.size + 1) :: us) _ _ (Ew σ) (hr.make C us []) (J.env0.make C us []) bd r2 hq) fun r s' got => ?_))
  rcases r with e | (_ | _ | _ | u)
  · exact hx pins _ _ e s' J got
  · exact False.elim got
  · exact False.elim got
  · exact False.elim got
  · obtain ⟨v, H', J3, rv, ev, q3⟩ := J.after got
    subst ev
    exact ⟨rv, ⟨V.ref (s.heap.objs.size + 1), H', J3, rfl, q3⟩⟩
def tMakeS (C : Addr) (sp : Sp) (Ew : L2.St → XK) (t : TA) : TE := fun σ H Q => t σ H fun vs H1 => ∀ x dx, H1 x = none → H1 dx = none → dx ≠ x → sp (.ref x :: vs) (upd (upd H1 dx (.own x)) x (.ins C dx [])) (fun v H2 => v = .non ∧ Q (.ref x) H2) (Ew σ)
theorem pe_makeS (M : Mk X.K C f) (F : FnOk X.prog X.w X.K X.mg X.base CX k f fd ps sp) (hr : Room (k + 1) X.A) (hg : Gl X x) (hm : X.mg x = some (.ref C)) (hb : Binds X.K fd ps []) (hx : ∀ σ, PassesAt CX X σ (Ew σ))
    (ha : PA X (e :: es) t) (hdb : (x == ("__debug__" : Str)) = false := by decide) (he : starEach (e :: es) X.env = (false, eval e X.env) :: starEach es X.env := by rfl) (hpl : (backTo pos (starEach es X.env)).any (·.1) = false := by rfl) :
    PE X (.Call (.Name x p) (e :: es) [] pos) (tMakeS C sp Ew t) := by
  refine ⟨fun pins s σ H Q I h => wpAny_Call_Name_kw (ld_glob I hg hm ?_ hdb)⟩
  refine PySem.W.callWith_K (h₀ := X.base) I.ok.mod.kin M.kp (thn (ha.run pos pins s σ H _ I h) fun us s1 ⟨vs, H1, J, r, q⟩ => ⟨J.kIn, ?_⟩) he hpl
  exact run_makeS M F hr hb (hx σ) J r q
/-- o.m(..) that may be refused -/
def tMethW (C : Addr) (m : Str) (sp : Sp) (Ew : L2.St → XK) (ta : TE) (t : TA) : TE := fun σ H Q => ta σ H fun x H1 => ∃ a dx fs, x = .ref a ∧ H1 a = some (.ins C dx fs) ∧ fs.lookup m = none ∧ t σ H1 fun vs H2 => sp (.ref a :: vs) H2 Q (Ew σ)
theorem pe_methW {pl : Sem Bool} (he : PE X o ta) (c : Cls X.K C) (hm : Meth X.K C m f) (F : FnOk X.prog X.w X.K X.mg X.base CX k f fd ps sp) (hr : Room k X.A) (hb : Binds X.K fd ps []) (hx : ∀ σ, PassesAt CX X σ (Ew σ)) (ha : PA X (e :: es) t)
    (hst : starEach (e :: es) X.env = (false, eval e X.env) :: starEach es X.env := by rfl) (hpl : (backTo pos (starEach es X.env)).any (·.1) = false := by rfl)
    (ht : eval (.Call (.Attribute o m apos) (e :: es) [] pos) X.env = (do
      let ov ← eval o X.env
      standAt apos.atName
      let (f, first) ← holding [ov] (getMethod ov m pl)
      callWith pos f first (backTo pos (starEach (e :: es) X.env)) (backToKw pos (keywordEach [] X.env))) := by rfl) :
    PE X (.Call (.Attribute o m apos) (e :: es) [] pos) (tMethW C m sp Ew ta t) := by
  refine ⟨fun pins s σ H Q I h => PySem.W.methodCall_KW (pl := pl) (thn (he.run pins s σ H _ I h) fun u s1 ⟨x, H1, J, rx, a, dx, fs, ex, ea, l, q⟩ => ?_) ht⟩
  subst ex
  obtain rfl : u = Value.ref a := rx
  refine getmeth_ok J ea c hm l (PySem.W.callWith_K (first := [.ref a]) (h₀ := X.base) I.ok.mod.kin hm.kp (thn (ha.run pos pins s1 σ H1 _ J q) fun us s2 ⟨vs, H2, J2, r, q2⟩ => ⟨J2.kIn, ?_⟩) hst hpl)
  exact run_fnS (us := .ref a :: us) (vs := .ref a :: vs) F hr hb (hx σ) J2 (.cons rfl r) q2
end
section
variable {P : Program} {w : World} {K : PySem.W.Frag} {mg : Str → Option Value} {base : Heap}
/-- an own method as the library's lemmas want it -/
structure OwnM (P : Program) (w : World) (K : PySem.W.Frag) (mg : Str → Option Value) (base : Heap) (C : Addr) (m : Str) (k : Nat) (ps : List Str) (sp : Sp) (g : Addr) (fd : FuncData) : Prop where
  M : Meth K C m g
  G : FnOk P w K mg base CX0 k g fd ps sp
  b : Binds K fd ps []
theorem OwnM.raw {C g : Addr} {m : Str} {k : Nat} {ps : List Str} {sp : Sp} {fd : FuncData} (o : OwnM P w K mg base C m k ps sp g fd) : FnR P w K mg base CX0 k g sp := (o.G.raw o.b .nil).imp fun vs H Q E h => by rw [List.append_nil]; exact h
end
end Kx


set_option maxHeartbeats 4000000
namespace Kx
open PySem L2
/-- the heap but for the hand -/
def wo (p : Addr) (H : Hp) : Hp := fun b => if b = p then none else H b
theorem wo_same {H : Hp} {p : Addr} : Same (wo p H) H := fun b o e => by
  unfold wo at e
  by_cases h : b = p
  · rw [if_pos h] at e; cases e
  · rw [if_neg h] at e; exact e
theorem wo_ne {H : Hp} {p b : Addr} (h : b ≠ p) : wo p H b = H b := if_neg h
theorem wo_keep {H H' : Hp} {p : Addr} (k : Keep H H' p) : Same (wo p H) (wo p H') := fun b o e => by
  unfold wo at e ⊢
  by_cases h : b = p
  · rw [if_pos h] at e; cases e
  · rw [if_neg h] at e ⊢; exact k b o e h
theorem wo_at {H : Hp} {p b : Addr} {o : HO} (h : H b = some o) (n : b ≠ p) : wo p H b = some o := by rw [wo_ne n]; exact h
theorem wo_mono {H H' : Hp} {p : Addr} (s : Same H H') : Same (wo p H) (wo p H') := wo_keep fun b o e _ => s b o e
theorem inV_strs (z : Str) : ∀ ys : List Str, inV (.str z) (ys.map V.str) = decide (z ∈ ys)
  | [] => rfl
  | y :: ys => by
    have ih := inV_strs z ys
    show (eqV (.str y) (.str z) || inV (.str z) (ys.map V.str)) = _
    rw [ih]
    by_cases e : z = y
    · subst e
      simp [eqV]
    · have e' : ¬ y = z := fun q => e q.symm
      simp [eqV, e, e']
end Kx
namespace Kx
open PySem L2
/-- what is new since H -/
def nw (H H' : Hp) : Hp := fun a => match H a with
  | none => H' a
  | some _ => none
theorem nw_at {H H' : Hp} {a : Addr} {o : HO} (h0 : H a = none) (h : H' a = some o) : nw H H' a = some o := by
  unfold nw
  rw [h0]
  exact h
theorem nw_get {H H' : Hp} {a : Addr} {o : HO} (h : nw H H' a = some o) : H a = none ∧ H' a = some o := by
  unfold nw at h
  cases e : H a with
  | none => rw [e] at h; exact ⟨rfl, h⟩
  | some u => rw [e] at h; cases h
end Kx
namespace Kx
open PySem L2
def rLstOf (K : PySem.W.Frag) : List V → Hp → VK → Prop := fun xs H Q => ∃ p ys, xs = [.ref p] ∧ (SqL K H p ys ∨ SqT K H p ys) ∧ ∀ l, H l = none → Q (.ref l) (upd H l (.lst ys))
/-- the heap but for the hand and one list more -/
def hid (b p : Addr) (H : Hp) : Hp := wo b (wo p H)
theorem hid_at {b p c : Addr} {H : Hp} {o : HO} (h : H c = some o) (n1 : c ≠ b) (n2 : c ≠ p) : hid b p H c = some o := by
  unfold hid
  rw [wo_ne n1, wo_ne n2]
  exact h
theorem hid_keep {b p : Addr} {H H' : Hp} (k : Keep H H' p) : Same (hid b p H) (hid b p H') := wo_mono (wo_keep k)
theorem hid_get {b p c : Addr} {H : Hp} {o : HO} (h : hid b p H c = some o) : H c = some o ∧ c ≠ b ∧ c ≠ p := by
  unfold hid at h
  have cb : c ≠ b := fun e => by rw [e] at h; unfold wo at h; rw [if_pos rfl] at h; cases h
  rw [wo_ne cb] at h
  have cp : c ≠ p := fun e => by rw [e] at h; unfold wo at h; rw [if_pos rfl] at h; cases h
  rw [wo_ne cp] at h
  exact ⟨h, cb, cp⟩
/-- where we stand: the hand, the list at b, the rest as it was -/
structure Fr (b p q : Addr) (ys : List V) (H0 Hs H : Hp) : Prop where
  hb : H b = some (.lst ys)
  bp : b ≠ p
  hp : HandAt H p q
  kp : Keep H0 H p
  sm : Same (hid b p Hs) (hid b p H)
  b0 : H0 b = none
  bq : b ≠ q
theorem Fr.new {b p q l : Addr} {ys : List V} {H0 Hs H : Hp} {o : HO} (f : Fr b p q ys H0 Hs H) (hl : H l = none) : Fr b p q ys H0 Hs (upd H l o) ∧ hid b p (upd H l o) l = some o ∧ Same (hid b p H) (hid b p (upd H l o)) := by
  have lb : l ≠ b := (ne_of_none f.hb hl).symm
  have lp : l ≠ p := f.hp.ap hl
  have l0 : H0 l = none := by
    cases e : H0 l with
    | none => rfl
    | some u => exact absurd hl (by rw [f.kp l u e lp]; exact fun z => nomatch z)
  have k : Keep H (upd H l o) p := fun c u e _ => by rw [upd_ne (ne_of_none e hl)]; exact e
  exact ⟨⟨by rw [upd_ne lb.symm]; exact f.hb, f.bp, f.hp.upd lp (f.hp.aq hl), keepUpd f.kp l0, f.sm.trans (hid_keep k), f.b0, f.bq⟩, hid_at upd_same lb lp, hid_keep k⟩
theorem Fr.draw {b p q : Addr} {ys : List V} {H0 Hs H H' : Hp} (f : Fr b p q ys H0 Hs H) (k : Keep H H' p) (h : HandAt H' p q) : Fr b p q ys H0 Hs H' ∧ Same (hid b p H) (hid b p H') :=
  ⟨⟨k b _ f.hb f.bp, f.bp, h, f.kp.trans k, f.sm.trans (hid_keep k), f.b0, f.bq⟩, hid_keep k⟩
theorem lab_low {z : Str} (h : isLab z = true) : Low z ∧ z.length ≤ 6 := by
  unfold isLab at h
  rw [Bool.and_eq_true, Bool.and_eq_true, decide_eq_true_eq, decide_eq_true_eq] at h
  refine ⟨fun c hc => ?_, h.2.1⟩
  have h3 := List.all_eq_true.mp h.2.2 c hc
  unfold isLow at h3
  simp only [Bool.and_eq_true, decide_eq_true_eq] at h3
  omega
theorem Fr.put {b p q c : Addr} {ys : List V} {H0 Hs H : Hp} {o : HO} (f : Fr b p q ys H0 Hs H) (n0 : H0 c = none) (ns : Hs c = none) (cb : c ≠ b) (cp : c ≠ p) (cq : c ≠ q) : Fr b p q ys H0 Hs (upd H c o) :=
  ⟨by rw [upd_ne cb.symm]; exact f.hb, f.bp, f.hp.upd cp cq, keepUpd f.kp n0, fun a u e => by
    obtain ⟨e1, n1, n2⟩ := hid_get (f.sm a u e)
    have ac : a ≠ c := fun h => by rw [h] at e; rw [(hid_get e).1] at ns; cases ns
    exact hid_at (by rw [upd_ne ac]; exact e1) n1 n2, f.b0, f.bq⟩
theorem HandAt.at_ {H : Hp} {p q : Addr} (h : HandAt H p q) : ∃ o, H p = some o := by
  obtain ⟨cs, a, b, c, h1, h2⟩ := h
  exact ⟨_, h1⟩
end Kx
namespace Kx
open PySem L2
theorem wo_get {p b : Addr} {H : Hp} {o : HO} (h : wo p H b = some o) : H b = some o ∧ b ≠ p := ⟨wo_same _ _ h, fun e => by rw [e] at h; unfold wo at h; rw [if_pos rfl] at h; cases h⟩
end Kx
namespace Kx
open PySem L2
theorem Fr.free {b p q c : Addr} {ys : List V} {H0 Hs H : Hp} (f : Fr b p q ys H0 Hs H) (hc : H c = none) : H0 c = none ∧ c ≠ b ∧ c ≠ p ∧ c ≠ q := by
  have cp := f.hp.ap hc
  refine ⟨?_, (ne_of_none f.hb hc).symm, cp, f.hp.aq hc⟩
  cases e : H0 c with
  | none => rfl
  | some u => exact absurd hc (by rw [f.kp c u e cp]; exact fun z => nomatch z)
/-- what is new since H0, but for the thing at b -/
def hn (b : Addr) (H0 H : Hp) : Hp := wo b (nw H0 H)
end Kx
namespace Kx
open PySem L2
theorem line2 {n : Nat} (h : n ≤ 2000000) : n < sizeLine := by
  have e : sizeLine = 16777216 := by decide
  omega
theorem pr_imp {α β : Type} {F G : α → β → Prop} {xs : List α} {ys : List β} (h : Paired F xs ys) (k : ∀ a b, F a b → G a b) : Paired G xs ys := by
  induction h with
  | nil => exact .nil
  | cons h t ih => exact .cons (k _ _ h) ih
/-! years, as they are told -/
/-- a list or a tuple at b -/
inductive IsSeq (K : PySem.W.Frag) (H : Hp) (b : Addr) (xs : List V) : Prop where
  | lst (h : H b = some (.lst xs)) : IsSeq K H b xs
  | tup (h : H b = some (.tup xs)) : IsSeq K H b xs
  | wr {o : Obj} (e : K.lookup b = some o) (c : o.cls = .type "tuple") (h : ∀ H, SqT K H b xs) : IsSeq K H b xs
theorem IsSeq.keep {K : PySem.W.Frag} {H H' : Hp} {b : Addr} {xs : List V} (h : IsSeq K H b xs) (s : Same H H') : IsSeq K H' b xs := by
  cases h with
  | lst h => exact .lst (s _ _ h)
  | tup h => exact .tup (s _ _ h)
  | wr e c h => exact .wr e c h
theorem IsSeq.sq {K : PySem.W.Frag} {H : Hp} {b : Addr} {xs : List V} (h : IsSeq K H b xs) : SqL K H b xs ∨ SqT K H b xs := by
  cases h with
  | lst h => exact .inl (SqL.of h)
  | tup h => exact .inr (SqT.of h)
  | wr e c h => exact .inr (h H)
theorem IsSeq.ty {K : PySem.W.Frag} {H : Hp} {b : Addr} {xs : List V} (h : IsSeq K H b xs) : ∃ n, n ∈ ["NoneType", "bool", "int", "str", "list", "tuple", "dict"] ∧ seqV n = true ∧ ∀ H', Same H H' → TyX K H' (.ref b) (.type n) := by
  cases h with
  | lst h => exact ⟨"list", by decide, rfl, fun H' s => .base (.lst (s _ _ h))⟩
  | tup h => exact ⟨"tuple", by decide, rfl, fun H' s => .base (.tup (s _ _ h))⟩
  | wr e c h => exact ⟨"tuple", by decide, rfl, fun H' s => .kTuple e c⟩
end Kx
namespace Kx
open PySem PySem.Spec PyProof.Rows L2
/-- what walks a list or a tuple -/
def iSeq (K : PySem.W.Frag) (tl : TE) : TI := fun σ H R => tl σ H fun x H1 => ∃ a, x = .ref a ∧ (((∃ xs, SqL K H1 a xs) ∧ R (Itl K a) H1) ∨ ((∃ xs, SqT K H1 a xs) ∧ R (Itt K a) H1))
theorem pi_seq {X : Cx} {tg l : Expr} {tl : TE} (hl : PE X l tl) : PI X tg l (iSeq X.K tl) := by
  refine ⟨fun pins s σ H R I h => ?_⟩
  refine thn (hl.run pins s σ H _ I h) fun v s1 ⟨x, H1, I1, r1, q1⟩ => ?_
  obtain ⟨a, e, q⟩ := q1
  subst e
  cases r1
  have at_ : ∀ b ∈ [s1.heap.objs.size], FpOk X pins H1 b := fun b hb => by
    obtain rfl : b = s1.heap.objs.size := by simpa using hb
    exact I1.fpOk (Nat.le_refl _) (I1.hok.fresh (Nat.le_refl _))
  rcases q with ⟨⟨xs, hq⟩, q⟩ | ⟨⟨xs, hq⟩, q⟩
  · obtain ⟨its, rv, p, hz⟩ := I1.list hq
    exact wpAny_pyIter_list p.isList ⟨s1.heap.objs.size, [s1.heap.objs.size], _, _, H1, rfl, I1.kept (t' := s1.toks) fun b o e => Heap.get?_push_of_some _ e, turn_list a _, ⟨_, Heap.get?_push_size _ rfl, rfl, rfl⟩, at_, q⟩
  · obtain ⟨its, rv, p, hz⟩ := I1.tuple hq
    exact wpAny_pyIter_tuple (show s1.heap.IsTuple a its.toArray from p) ⟨s1.heap.objs.size, [s1.heap.objs.size], _, _, H1, rfl, I1.kept (t' := s1.toks) fun b o e => Heap.get?_push_of_some _ e, turn_tuple a _, ⟨_, Heap.get?_push_size _ rfl, rfl, rfl⟩, at_, q⟩
theorem IsSeq.both {K : PySem.W.Frag} {H : Hp} {b : Addr} {xs : List V} (h : IsSeq K H b xs) : (∀ H', Same H H' → SqL K H' b xs) ∨ (∀ H', Same H H' → SqT K H' b xs) := by
  cases h with
  | lst h => exact .inl fun H' s => SqL.of (s _ _ h)
  | tup h => exact .inr fun H' s => SqT.of (s _ _ h)
  | wr e c h => exact .inr fun H' s => h H'
/-- what a comprehension over such is to show -/
def LcB (K : PySem.W.Frag) (a : Addr) (g : TG) (tt : TT) (te : TE) (vs : List Nat) (σ : L2.St) (H1 : Hp) (Qd : Addr → Hp → Prop) : Prop :=
  ((∃ xs, SqL K H1 a xs) ∧ ∀ D, H1 D = none → ∃ W : Nat → Nat → Hp → Prop, (∃ m, W 0 m (upd H1 D (.lst []))) ∧ ∀ i m H, W i m H → ((Itl K a).stop i H ∧ Qd D H) ∨ ((Itl K a).go i H ∧ ∃ Nx : Hp → Prop, (∀ H', Nx H' → ∃ m', m' < m ∧ W (i + 1) m' H') ∧
      ∀ x H', (Itl K a).yld i H x H' → g x (wipe σ vs) H' fun σ2 H2 => wipe σ2 vs = wipe σ vs ∧ tt σ2 H2 fun b H3 => if b = true then te σ2 H3 fun y H4 => ∃ acc, H4 D = some (.lst acc) ∧ acc.length < sizeLine ∧ Nx (upd H4 D (.lst (acc ++ [y]))) else Nx H3)) ∨
  ((∃ xs, SqT K H1 a xs) ∧ ∀ D, H1 D = none → ∃ W : Nat → Nat → Hp → Prop, (∃ m, W 0 m (upd H1 D (.lst []))) ∧ ∀ i m H, W i m H → ((Itt K a).stop i H ∧ Qd D H) ∨ ((Itt K a).go i H ∧ ∃ Nx : Hp → Prop, (∀ H', Nx H' → ∃ m', m' < m ∧ W (i + 1) m' H') ∧
      ∀ x H', (Itt K a).yld i H x H' → g x (wipe σ vs) H' fun σ2 H2 => wipe σ2 vs = wipe σ vs ∧ tt σ2 H2 fun b H3 => if b = true then te σ2 H3 fun y H4 => ∃ acc, H4 D = some (.lst acc) ∧ acc.length < sizeLine ∧ Nx (upd H4 D (.lst (acc ++ [y]))) else Nx H3))
theorem lc_sq {K : PySem.W.Frag} {a : Addr} {xs : List V} {g : TG} {tt : TT} {te : TE} {vs : List Nat} {σ : L2.St} {H0 H1 : Hp} {Qd : Addr → Hp → Prop} (q : IsSeq K H0 a xs) (s0 : Same H0 H1)
    (body : ∀ D, H1 D = none → ∃ Pv : Nat → Hp → Prop, Pv 0 (upd H1 D (.lst [])) ∧ (∀ i H, Pv i H → Same H0 H) ∧ (∀ i x H, xs[i]? = some x → Pv i H → g x (wipe σ vs) H fun σ2 H2 => wipe σ2 vs = wipe σ vs ∧ tt σ2 H2 fun b H3 =>
      if b = true then te σ2 H3 fun y H4 => ∃ acc, H4 D = some (.lst acc) ∧ acc.length < sizeLine ∧ Pv (i + 1) (upd H4 D (.lst (acc ++ [y]))) else Pv (i + 1) H3) ∧ ∀ H, Pv xs.length H → Qd D H) : LcB K a g tt te vs σ H1 Qd := by
  rcases q.both with q | q
  · exact .inl ⟨⟨xs, q _ s0⟩, fun D hD => by
      obtain ⟨Pv, p0, st, tu, af⟩ := body D hD
      exact lc_list (K := K) (a := a) (xs := xs) Pv p0 (fun i H _ p => q _ (st i H p)) tu af⟩
  · exact .inr ⟨⟨xs, q _ s0⟩, fun D hD => by
      obtain ⟨Pv, p0, st, tu, af⟩ := body D hD
      exact lc_tup (K := K) (a := a) (xs := xs) Pv p0 (fun i H _ p => q _ (st i H p)) tu af⟩
theorem woD {H1 H H4 : Hp} {D : Addr} {o : HO} (h : H1 D = none) (s : Same H1 H) (s4 : Same H H4) : Same H1 (upd H4 D o) := fun b u e => by
  rw [upd_ne (ne_of_none e h)]
  exact s4 b u (s b u e)
theorem woU {H H4 : Hp} {D : Addr} {o : HO} (s4 : Same H H4) : Same (wo D H) (wo D (upd H4 D o)) := wo_keep fun b u e n => by
  rw [upd_ne n]
  exact s4 b u e
/-- a comprehension without tests whose step makes y of x, G telling how (of all but the new list), the old things standing still -/
theorem lc_pure {K : PySem.W.Frag} {a : Addr} {xs : List V} {g : TG} {te : TE} {vs : List Nat} {σ : L2.St} {H0 H1 : Hp} {Qd : Addr → Hp → Prop} (G : Nat → V → Hp → Prop) (keep : ∀ i y H H', G i y H → Same H H' → G i y H') (q : IsSeq K H0 a xs) (s0 : Same H0 H1) (hz : xs.length ≤ 2000000)
    (step : ∀ D i x H (k : V → Hp → Prop), xs[i]? = some x → H1 D = none → Same H1 H → (∃ acc, H D = some (.lst acc)) → (∀ y H4, Same H H4 → G i y (wo D H4) → k y H4) → g x (wipe σ vs) H fun σ2 H2 => wipe σ2 vs = wipe σ vs ∧ te σ2 H2 k)
    (after : ∀ D ys H, H1 D = none → Same H1 H → H D = some (.lst ys) → ys.length = xs.length → (∀ i y, ys[i]? = some y → G i y (wo D H)) → Qd D H) (gm : ∀ x σ H (Q Q' : L2.St → Hp → Prop), (∀ σ H, Q σ H → Q' σ H) → g x σ H Q → g x σ H Q') : LcB K a g tYes te vs σ H1 Qd := by
  refine lc_sq q s0 fun D hD => ⟨fun i H => Same H1 H ∧ ∃ acc, H D = some (.lst acc) ∧ acc.length = i ∧ i ≤ xs.length ∧ ∀ j y, acc[j]? = some y → G j y (wo D H), ⟨sameUpd (Same.refl _) hD, [], upd_same, rfl, Nat.zero_le _, fun j y e => by cases e⟩, fun i H p => s0.trans p.1, ?_, ?_⟩
  · rintro i x H hi ⟨s1, acc, hd, al, _, ha⟩
    have lt : i < xs.length := (List.getElem?_eq_some_iff.mp hi).1
    refine gm _ _ _ _ _ (fun σ2 H2 z => ⟨z.1, ?_⟩) (step D i x H (fun y H4 => ∃ acc, H4 D = some (.lst acc) ∧ acc.length < sizeLine ∧ (Same H1 (upd H4 D (.lst (acc ++ [y]))) ∧ ∃ acc', upd H4 D (.lst (acc ++ [y])) D = some (.lst acc') ∧ acc'.length = i + 1 ∧ i + 1 ≤ xs.length ∧ ∀ j y', acc'[j]? = some y' → G j y' (wo D (upd H4 D (.lst (acc ++ [y])))))) hi hD s1 ⟨acc, hd⟩ fun y H4 s4 gy => ?_)
    · unfold tYes
      dsimp only
      rw [if_pos rfl]
      exact z.2
    · refine ⟨acc, s4 _ _ hd, line2 (by omega), woD hD s1 s4, acc ++ [y], upd_same, by simp [al], lt, fun j y' e => ?_⟩
      by_cases lj : j < acc.length
      · rw [List.getElem?_append_left lj] at e
        exact keep _ _ _ _ (ha j y' e) (woU s4)
      · have ej : j = i := by
          have := (List.getElem?_eq_some_iff.mp e).1
          simp at this
          omega
        subst ej
        rw [List.getElem?_append_right (by omega), al, Nat.sub_self] at e
        cases e
        exact keep _ _ _ _ gy (woU (Same.refl _))
  · rintro H ⟨s1, acc, hd, al, _, ha⟩
    exact after D acc H hD s1 hd al ha
end Kx
namespace Kx
open PySem L2
end Kx
namespace Kx
open PySem L2
theorem pr_of {α β : Type} {F : α → β → Prop} : ∀ {xs : List α} {ys : List β}, xs.length = ys.length → (∀ (i : Nat) (x : α) (y : β), xs[i]? = some x → ys[i]? = some y → F x y) → Paired F xs ys
  | [], [], _, _ => .nil
  | [], _ :: _, e, _ => by cases e
  | _ :: _, [], e, _ => by cases e
  | _ :: _, _ :: _, e, f => .cons (f 0 _ _ rfl rfl) (pr_of (Nat.succ.inj e) fun i x y e1 e2 => f (i + 1) x y e1 e2)
end Kx
namespace Kx
open PySem L2
/-- what a comprehension over an enumerated list or tuple is to show -/
def LcE (J : It) (g : TG) (tt : TT) (te : TE) (vs : List Nat) (σ : L2.St) (H1 : Hp) (Qd : Addr → Hp → Prop) : Prop :=
  ∀ D, H1 D = none → ∃ W : Nat → Nat → Hp → Prop, (∃ m, W 0 m (upd H1 D (.lst []))) ∧ ∀ i m H, W i m H → (J.stop i H ∧ Qd D H) ∨ (J.go i H ∧ ∃ Nx : Hp → Prop, (∀ H', Nx H' → ∃ m', m' < m ∧ W (i + 1) m' H') ∧
      ∀ x H', J.yld i H x H' → g x (wipe σ vs) H' fun σ2 H2 => wipe σ2 vs = wipe σ vs ∧ tt σ2 H2 fun b H3 => if b = true then te σ2 H3 fun y H4 => ∃ acc, H4 D = some (.lst acc) ∧ acc.length < sizeLine ∧ Nx (upd H4 D (.lst (acc ++ [y]))) else Nx H3)
theorem lc_en {K : PySem.W.Frag} {a : Addr} {xs : List V} {g : TG} {tt : TT} {te : TE} {vs : List Nat} {σ : L2.St} {H0 H1 : Hp} {Qd : Addr → Hp → Prop} (q : IsSeq K H0 a xs) (s0 : Same H0 H1)
    (body : ∀ D, H1 D = none → ∃ Pv : Nat → Hp → Prop, Pv 0 (upd H1 D (.lst [])) ∧ (∀ i H, Pv i H → Same H0 H) ∧ (∀ i x H T, xs[i]? = some x → Pv i H → H T = none → g (.ref T) (wipe σ vs) (upd H T (.tup [.int (i : Nat), x])) fun σ2 H2 => wipe σ2 vs = wipe σ vs ∧ tt σ2 H2 fun b H3 =>
      if b = true then te σ2 H3 fun y H4 => ∃ acc, H4 D = some (.lst acc) ∧ acc.length < sizeLine ∧ Pv (i + 1) (upd H4 D (.lst (acc ++ [y]))) else Pv (i + 1) H3) ∧ ∀ H, Pv xs.length H → Qd D H) :
    (SqL K H1 a xs ∧ LcE (Ite K a) g tt te vs σ H1 Qd) ∨ (SqT K H1 a xs ∧ LcE (IteT K a) g tt te vs σ H1 Qd) := by
  rcases q.both with q | q
  · refine .inl ⟨q _ s0, fun D hD => ?_⟩
    obtain ⟨Pv, p0, st, tu, af⟩ := body D hD
    refine ⟨fun i m H => m + i = xs.length ∧ Pv i H, ⟨xs.length, by omega, p0⟩, fun i m H u => ?_⟩
    obtain ⟨e, u⟩ := u
    cases m with
    | zero =>
      obtain rfl : i = xs.length := by omega
      exact .inl ⟨⟨xs, q _ (st _ _ u), Nat.le_refl _⟩, af _ u⟩
    | succ m =>
      have lt : i < xs.length := by omega
      refine .inr ⟨⟨xs, xs[i], q _ (st _ _ u), List.getElem?_eq_getElem lt⟩, Pv (i + 1), fun H' u' => ⟨m, Nat.lt_succ_self _, by omega, u'⟩, fun x H' y => ?_⟩
      obtain ⟨T, z, rfl, free, rfl, same⟩ := y
      exact tu i z H T (same xs (q _ (st _ _ u))) u free
  · refine .inr ⟨q _ s0, fun D hD => ?_⟩
    obtain ⟨Pv, p0, st, tu, af⟩ := body D hD
    refine ⟨fun i m H => m + i = xs.length ∧ Pv i H, ⟨xs.length, by omega, p0⟩, fun i m H u => ?_⟩
    obtain ⟨e, u⟩ := u
    cases m with
    | zero =>
      obtain rfl : i = xs.length := by omega
      exact .inl ⟨⟨xs, q _ (st _ _ u), rfl⟩, af _ u⟩
    | succ m =>
      have lt : i < xs.length := by omega
      refine .inr ⟨⟨xs, xs[i], q _ (st _ _ u), List.getElem?_eq_getElem lt⟩, Pv (i + 1), fun H' u' => ⟨m, Nat.lt_succ_self _, by omega, u'⟩, fun x H' y => ?_⟩
      obtain ⟨T, z, rfl, free, rfl, same⟩ := y
      exact tu i z H T (same xs (q _ (st _ _ u))) u free
end Kx
namespace Kx
open PySem L2
/-! [x for x in xs if ..]: only whether anything is left is told -/
def okV (y : V) : Prop := flatV y = true ∨ ∃ c, y = .ref c
theorem lc_filt {K : PySem.W.Frag} {a : Addr} {xs : List V} {g : TG} {tt : TT} {te : TE} {vs : List Nat} {σ : L2.St} {H0 H1 : Hp} {Qd : Addr → Hp → Prop} (bad : Nat → Bool) (q : IsSeq K H0 a xs) (s0 : Same H0 H1) (hz : xs.length ≤ 2000000)
    (step : ∀ D i x H (kt : V → Hp → Prop) (kf : Hp → Prop), xs[i]? = some x → H1 D = none → Same H1 H → (∃ acc, H D = some (.lst acc)) → (bad i = true → ∀ y H4, okV y → Same H H4 → kt y H4) → (bad i = false → ∀ H4, Same H H4 → kf H4) →
      g x (wipe σ vs) H fun σ2 H2 => wipe σ2 vs = wipe σ vs ∧ tt σ2 H2 fun b H3 => if b = true then te σ2 H3 kt else kf H3)
    (after : ∀ D ys H, H1 D = none → Same H1 H → H D = some (.lst ys) → ys.length ≤ xs.length → (∀ z ∈ ys, okV z) → (ys = [] ↔ ∀ i, i < xs.length → bad i = false) → Qd D H) : LcB K a g tt te vs σ H1 Qd := by
  refine lc_sq q s0 fun D hD => ⟨fun i H => Same H1 H ∧ ∃ acc, H D = some (.lst acc) ∧ acc.length ≤ i ∧ i ≤ xs.length ∧ (∀ z ∈ acc, okV z) ∧ (acc = [] ↔ ∀ j, j < i → bad j = false), ⟨sameUpd (Same.refl _) hD, [], upd_same, Nat.le_refl _, Nat.zero_le _, (fun z h => nomatch h), ⟨fun _ j h => absurd h (Nat.not_lt_zero _), fun _ => rfl⟩⟩, fun i H p => s0.trans p.1, ?_, ?_⟩
  · rintro i x H hi ⟨s1, acc, hd, al, _, ok, ha⟩
    have lt : i < xs.length := (List.getElem?_eq_some_iff.mp hi).1
    refine step D i x H _ _ hi hD s1 ⟨acc, hd⟩ (fun hb y H4 oy s4 => ?_) (fun hb H4 s4 => ?_)
    · refine ⟨acc, s4 _ _ hd, line2 (by omega), woD hD s1 s4, acc ++ [y], upd_same, by simp; omega, lt, fun z hz => (List.mem_append.mp hz).elim (ok z) fun h => by rw [List.mem_singleton.mp h]; exact oy, ⟨fun e => by simp at e, fun e => ?_⟩⟩
      rw [e i (Nat.lt_succ_self _)] at hb
      cases hb
    · refine ⟨s1.trans s4, acc, s4 _ _ hd, by omega, lt, ok, ha.trans ⟨fun e j hj => ?_, fun e j hj => e j (by omega)⟩⟩
      by_cases ej : j = i
      · rw [ej]; exact hb
      · exact e j (by omega)
  · rintro H ⟨s1, acc, hd, al, _, ok, ha⟩
    exact after D acc H hD s1 hd al ok ha
end Kx
namespace Kx
open PySem L2
theorem call_isiTK {X : Cx} {K : PySem.W.Frag} (h : X.K = K) : CallR X (.builtin "isinstance") (rIsiT K) := by
  subst h
  exact call_isiT
end Kx
namespace Kx
open PySem L2
theorem pe_fldK {X : Cx} {K : PySem.W.Frag} {e : Expr} {ta : TE} {f : Str} {pos : Pos} (h : X.K = K) (he : PE X e ta) (hb : attributeBase e f X.env (eval e X.env) = eval e X.env) : PE X (.Attribute e f pos) (tFld K ta f) := by
  subst h
  exact pe_fld he hb
end Kx
namespace Kx
open PySem L2
end Kx
namespace Kx
open PySem L2
/-! years as data; == of histories -/
theorem cut_take (xs : List V) (m : Nat) (h : m ≤ xs.length) : cutV xs none (some (m : Int)) = xs.take m := by
  unfold cutV
  have e1 : HT.sIx xs.length 0 none = 0 := rfl
  have e2 : HT.sIx xs.length xs.length (some (m : Int)) = m := by
    simp [HT.sIx]
    rw [if_neg (by omega)]
    omega
  rw [e1, e2]
  simp
theorem cut_drop (xs : List V) (m : Nat) (h : m ≤ xs.length) : cutV xs (some (m : Int)) none = xs.drop m := by
  unfold cutV
  have e1 : HT.sIx xs.length 0 (some (m : Int)) = m := by
    simp [HT.sIx]
    rw [if_neg (by omega)]
    omega
  have e2 : HT.sIx xs.length xs.length none = xs.length := rfl
  rw [e1, e2, List.take_of_length_le (by simp)]
end Kx
namespace Kx
open PySem PySem.Spec PyProof.Rows L2
section
variable {X : Cx}
/-- two lists, of other lengths or both empty -/
def rEqL (K : PySem.W.Frag) : R2 := fun x y H Q => ∃ a b xs ys, x = .ref a ∧ y = .ref b ∧ SqL K H a xs ∧ SqL K H b ys ∧ ((xs.length ≠ ys.length ∧ Q (.bl false) H) ∨ (xs = [] ∧ ys = [] ∧ Q (.bl true) H))
end
theorem Fr.old {b p q : Addr} {ys : List V} {H0 Hs H : Hp} (f : Fr b p q ys H0 Hs H) : Same (wo p H0) (hid b p H) := fun c u e => by
  obtain ⟨h, n⟩ := wo_get e
  exact hid_at (f.kp c u h n) (fun z => by have q := f.b0; rw [← z, h] at q; cases q) n
end Kx

set_option maxHeartbeats 4000000
namespace Kx
open PySem PySem.Spec PyProof.Rows L2
abbrev QT : VK := fun v _ => v = .bl true
abbrev EF : XK := fun _ _ _ => False
/-- the body of the law's def, asked at the call that the row makes (nothing is being shown by repr there) -/
def LawBody (P : Program) (w : World) (K : PySem.W.Frag) (mg : Str → Option Value) (base : Heap) (N : List Str) (x : Str) (st : Stmt) (fa : Addr) (k : Nat) : Prop :=
  ∀ (cdv : Value) (s : Shared) (H : Hp) (a : Addr) (ns : List Int), Room k (callerA.deeper (envOfC x (defScope st) s.heap.objs.size fa cdv)) → SqL K H a (ns.map V.int) → ns.length ≤ 63 →
    ∃ t, PSs (cxOf CX0 P w K mg base N x (defScope st) fa cdv callerA [] s H EF).nox (defBody st) t ∧ t { nx := fun _ H' => QT .non H', rt := QT } (start N [.ref a]) H
section
variable {P : Program} {w : World} {K : PySem.W.Frag} {mg mb : Str → Option Value} {k : Nat} {fa a : Addr} {fd : FuncData} {x y : Str} {st : Stmt} {N : List Str}
theorem law_at {base : Heap} (F : Fun K x x st fa fd) (S : FnScope N [y] (defScope st)) (hr : Room (k + 1) callerA) (B : LawBody P w K mg base N x st fa k) (bind : ∀ (s : Shared) (u : Value), BindsTo s fd ⟨[u], []⟩ [(y, u)])
    {s : Shared} {H : Hp} {ns : List Int} (e0 : Env0 P w K mg base callerA [] s H) (hS : SqL K H a (ns.map V.int)) (hn : ns.length ≤ 63) :
    codeAny (model P w) callerA (.call (.ref fa) ⟨[.ref a], []⟩) (CR CX0 [] P w H s QT EF) s := by
  obtain ⟨oc, od, kV, doc, pm, an, cdv, ct, osl, rfl, lk, hcd⟩ := F.ex
  have KX : K.In s.heap := e0.mod.kin.keeps fun b o e => (e0.bs b o e).1
  have noLim : s.heap.NoLimit := e0.mod.nolimit.keeps fun b o e => (e0.bs b o e).1
  have kinds : ∀ z ∈ [(y, Value.ref a)], (defScope st).names.lookup z.1 = some .local ∨ ((defScope st).names.lookup z.1 = some .cell ∧ ((cellsFrom (s.heap.objs.size + 1) (defScope st).names []).lookup z.1).isSome = true) := fun z hz => by
    obtain rfl : z = (y, Value.ref a) := by simpa using hz
    rcases S.par y (.head _) with q | q
    · exact .inl q
    · exact .inr ⟨q, PySem.W.cellsFrom_some _ _ _ (.inl q)⟩
  refine codeAny_call_function hr.depth (KX _ _ lk) rfl S.co S.gen rfl (PySem.W.codeRec_of KX hcd) (bind s (.ref a) _ _ _ _ (wpAny_newFunctionEnv_cells S.kind kinds fun env he s1 z => ?_))
  subst he
  obtain ⟨t, ht, hq⟩ := B cdv s H a ns (hr.deeper _) hS hn
  refine ⟨noLim.keeps z.toInCall.keep, codeAny_func (wpAny_mono (ht.nox.run [] s1 (start N [.ref a]) H _ (inv_start S hr.hd e0 rfl (.cons rfl .nil) z) hq) (fun fl s' got => ?_) fun e s' got => got)⟩
  cases fl with
  | ret u => obtain ⟨v, σ', H', J, rv, q⟩ := got; exact ⟨v, H', J.os, J.bare, J.base, J.hok, rv, q⟩
  | next => obtain ⟨σ', H', J, q⟩ := got; exact absurd q (fun z => nomatch z)
  | brk => obtain ⟨_, _, _, q⟩ := got; exact q.elim
  | cont => obtain ⟨_, _, _, q⟩ := got; exact q.elim
/-- behind the top nothing is tracked but the script -/
theorem env_at {s : Shared} {H : Hp} {vs : List Value} (KX : K.In s.heap) (main : s.heap.Ns mainGlobals mg) (blt : s.heap.Ns builtinsNs mb) (boot : ∀ x : Str, x ≠ "__name__" → mb x = bootBuiltins x) (lim : s.heap.NoLimit) (gens : s.gens = #[])
    (at_ : s.heap.get? a = some { cls := .type "list", data := .seq vs.toArray }) (ok : HOk P w H s.heap) (only : ∀ b, b ≠ a → H b = none) (mine : H a = none ∨ K.lookup a = none) : Env0 P w K mg (hidT s.heap H) callerA [] s H := by
  have keepK : K.In (hidT s.heap H) := fun b o e => hidT_get (KX b o e) (by
    by_cases z : b = a
    · subst z
      rcases mine with q | q
      · exact q
      · rw [q] at e; cases e
    · exact only b z)
  have keepN : ∀ {b : Addr} {m : Str → Option Value}, s.heap.Ns b m → (hidT s.heap H).Ns b m := by
    rintro b m ⟨o, es, ep, e, d, r⟩
    refine ⟨o, es, ep, hidT_get e (only b fun z => ?_), d, r⟩
    subst z
    rw [at_] at e
    cases e
    cases d
  obtain ⟨mc, l1, l2⟩ := lim
  exact ⟨rfl, ⟨keepK, keepN main, ⟨mb, keepN blt, boot⟩, ⟨mc, keepN l1, l2⟩⟩, fun b o e => of_hidT e, Nat.le_of_eq (hidT_size _ _), trivial, fun b hb => (nomatch hb), ok, .of_eq gens⟩
theorem law_end {s : Shared} {vs : List Value} {ns : List Int} (KX : K.In s.heap) (main : s.heap.Ns mainGlobals mg) (blt : s.heap.Ns builtinsNs mb) (boot : ∀ x : Str, x ≠ "__name__" → mb x = bootBuiltins x) (lim : s.heap.NoLimit) (gens : s.gens = #[])
    (at_ : s.heap.get? a = some { cls := .type "list", data := .seq vs.toArray }) (hints : IntsAre vs ns) (hn : ns.length ≤ 63)
    (run : ∀ (base : Heap) (H : Hp), K.In base → base.Ns mainGlobals mg → Env0 P w K mg base callerA [] s H → SqL K H a (ns.map V.int) → codeAny (model P w) callerA (.call (.ref fa) ⟨[.ref a], []⟩) (CR CX0 [] P w H s QT EF) s) :
    codeAny (model P w) callerA (.call (.ref fa) ⟨[.ref a], []⟩) (fun r s' => r = .ok (.ret (.bool true)) ∧ OldK s.heap s'.heap ∧ s'.os = s.os ∧ AllBare s'.gens) s := by
  have rv := vals_ints hints
  have fits : (ns.map V.int).length ≤ sizeLine := by rw [List.length_map]; exact Nat.le_of_lt (small1000 (by omega))
  have go : ∀ H : Hp, (∀ b, b ≠ a → H b = none) → (H a = none ∧ SqL K H a (ns.map V.int) ∨ K.lookup a = none ∧ H a = some (.frz { cls := .type "list", data := .seq vs.toArray } (.lst (ns.map V.int)))) →
      codeAny (model P w) callerA (.call (.ref fa) ⟨[.ref a], []⟩) (fun r s' => r = .ok (.ret (.bool true)) ∧ OldK s.heap s'.heap ∧ s'.os = s.os ∧ AllBare s'.gens) s := by
    intro H only mine
    have ok : HOk P w H s.heap := fun b u e => by
      by_cases z : b = a
      · subst z
        rcases mine with ⟨q, _⟩ | ⟨_, q⟩
        · rw [q] at e; cases e
        · rw [q] at e
          cases e
          exact ⟨at_, fits, vs, _, rv, at_⟩
      · rw [only b z] at e; cases e
    have e0 := env_at (P := P) (w := w) KX main blt boot lim gens at_ ok only (mine.elim (fun q => .inl q.1) fun q => .inr q.1)
    refine codeAny_mono (run _ H e0.mod.kin e0.mod.glob e0 (mine.elim (fun q => q.2) fun q => .inl (.inr ⟨_, q.2⟩))) fun r s' got => ?_
    rcases r with e | (_ | _ | _ | u)
    · exact got.elim
    · exact got.elim
    · exact got.elim
    · exact got.elim
    · obtain ⟨v, H', os, bare, un, ok', rel, q⟩ := got
      obtain rfl : v = .bl true := q
      obtain rfl : u = Value.bool true := rel
      refine ⟨rfl, OldK.of_keep fun b o e => ?_, os, bare⟩
      cases q : H b with
      | none => exact un.keep b o e q (fun z => (nomatch z)) (fun z => (nomatch z))
      | some u =>
        have z : b = a := Classical.byContradiction fun z => by rw [only b z] at q; cases q
        subst z
        rcases mine with ⟨q2, _⟩ | ⟨_, q2⟩
        · rw [q2] at q; cases q
        · rw [at_] at e
          cases e
          exact (ok' b _ (un.frzs b _ _ q2)).1
  cases hk : K.lookup a with
  | some o =>
    have e := KX a o hk
    rw [at_] at e
    cases e
    exact go (fun _ => none) (fun _ _ => rfl) (.inl ⟨rfl, .inr ⟨_, vs.toArray, _, hk, rfl, rfl, rfl, by rw [List.size_toArray, hints.length]; exact Nat.le_of_lt (small1000 (by omega)), by simpa using rv⟩⟩)
  | none => exact go (fun b => if b = a then some (.frz { cls := .type "list", data := .seq vs.toArray } (.lst (ns.map V.int))) else none) (fun b z => if_neg z) (.inr ⟨hk, if_pos rfl⟩)
end
theorem law_walk {l : PySem.W.OpenLaw} {q : Program} {loose : List Str} {XP : (Str → Option Value) → Heap → Prop} {YP : World → Heap → Prop} {d : DefRec} {K : Params → PySem.W.Frag} (hn : l.most = some 63) (hdf : d.params.defaults = []) (hY : ∀ (w : World) (h : Heap), YP w h → (K w.params).In h)
    (F : ∀ (w : World) (mg : Str → Option Value) (fa : Addr) (h : Heap), (K w.params).In h → h.Ns mainGlobals mg → mg d.name = some (.ref fa) →
      ∀ (base : Heap) (s : Shared) (H : Hp) (a : Addr) (ns : List Int), (K w.params).In base → base.Ns mainGlobals mg → Env0 l.prog w (K w.params) mg base callerA [] s H → SqL (K w.params) H a (ns.map V.int) → ns.length ≤ 63 →
        codeAny (model l.prog w) callerA (.call (.ref fa) ⟨[.ref a], []⟩) (CR CX0 [] l.prog w H s QT EF) s) : PySem.W.WalkO q loose XP YP l.row.toRowW d [] (fun f vs => PySem.call f vs) :=
  Att.attach_call hn hdf fun w s₀ s₁ mg mb fa o pm cd doc a vs ns G Y ho hd hcd hmg hobj hints hlen hg =>
    law_end (hY w _ Y) G.T.g G.T.b G.T.builtins G.T.nolimit hg hobj hints hlen fun base H kin main e0 hS => F w mg fa _ (hY w _ Y) G.T.g hmg base s₁ H a ns kin main e0 hS hlen
end Kx


set_option maxHeartbeats 4000000
/-! try: .. except A as e: .. except B as e: ..: clauses with one and the same name, tried from the first -/
namespace Kx
open PySem PySem.Spec PyProof.Rows L2
abbrev Suit := Addr → Value → Option Addr → TS
/-- what such clauses wish -/
def wEach (K : PySem.W.Frag) (Wo : WX) (D : Ends) (i : Nat) : List (Value × Suit) → WX
  | [] => Wo
  | (c, ts) :: r => wAs K c i ts (wEach K Wo D i r) D
inductive Clauses (X : Cx) (n : Str) : List ExceptHandler → List (Value × Suit) → Prop
  | nil : Clauses X n [] []
  | cons {x : Str} {c : Value} {ts : Suit} {b₁ : Stmt} {more : List Stmt} {q1 q2 : Pos} {hds : List ExceptHandler} {l : List (Value × Suit)} (hc : Names X x c)
      (su : ∀ (a : Addr) (o : Obj) (cls : Value) (d : Option Addr) (pn : List (Addr × Obj)), Zc cls d o → (∃ vs, o.data = .fields vs) → PSs (X.suite a ((a, o) :: pn)) (b₁ :: more) (ts a cls d)) (r : Clauses X n hds l) :
      Clauses X n (.ExceptHandler (some (.Name x q1)) (some n) (b₁ :: more) q2 :: hds) ((c, ts) :: l)
section
variable {X : Cx} {n : Str} {i : Nat} {body : List Stmt} {c₁ : ExceptHandler} {hds : List ExceptHandler} {l : List (Value × Suit)} {pos : Pos} {tb : WX → TS} {Wo : WX}
/-- how a suite of a named clause goes on -/
theorem suite_ends {pins : List (Addr × Obj)} {D : Ends} {f : Flow} {s : Shared} {a : Addr} {o : Obj} {q : Pos} {pn : List (Addr × Obj)} (ok : X.Ok) (nd : X.N.Nodup) (at_ : X.N[i]? = some n) (lc : X.env.kindOf n = some .local)
    (h : SP (X.suite a ((a, o) :: (pn ++ pins))) [] { nx := fun σ' H' => D.nx (σ'.set i none) H', rt := D.rt, bk := fun σ' H' => D.bk (σ'.set i none) H', ct := fun σ' H' => D.ct (σ'.set i none) H' } f s) (hpn : pn = X.pn) :
    wpAny (model X.prog X.w) X.A (do bindName X.env n .none; unbindBehindTheSuite X.env n q) (fun _ s2 => SP X pins D f s2) X.xe s := by
  subst hpn
  cases f with
  | ret u => obtain ⟨v, σ1, H1, S1, r1, q1⟩ := h; exact gone_ok (S1.unsuite ok) nd at_ lc fun s2 J => ⟨_, _, _, J, r1, q1⟩
  | next => obtain ⟨σ1, H1, S1, q1⟩ := h; exact gone_ok (S1.unsuite ok) nd at_ lc fun s2 J => ⟨_, _, J, q1⟩
  | brk => obtain ⟨σ1, H1, S1, q1⟩ := h; exact gone_ok (S1.unsuite ok) nd at_ lc fun s2 J => ⟨_, _, J, q1⟩
  | cont => obtain ⟨σ1, H1, S1, q1⟩ := h; exact gone_ok (S1.unsuite ok) nd at_ lc fun s2 J => ⟨_, _, J, q1⟩
theorem ps_try_each (hs : X.stack = X.env :: X.outer) (hf : X.env.frame = some X.env.locals) (nd : X.N.Nodup) (at_ : X.N[i]? = some n) (lc : X.env.kindOf n = some .local) (tk : Takes X Wo)
    (hb : ∀ (W : WX) (pn : List (Addr × Obj)) (xe : Value → Shared → Prop), Takes (X.tr pn xe) W → PassesOwn (model X.prog X.w) X.A X.env xe → PSs (X.tr pn xe) body (tb W))
    (hh : Clauses X n (c₁ :: hds) l) : PS X (.Try body (c₁ :: hds) [] [] pos) (fun D σ H => tb (wEach X.K Wo D i l) D σ H) := by
  refine ⟨fun pins s σ H D I h => ?_⟩
  have ok := I.ok
  have fr : X.A.frames = some (X.env :: X.outer) := ok.frames.trans (congrArg some hs)
  refine wpAny_Try_except (wpAny_mono ((hb (wEach X.K Wo D i l) (X.pn ++ pins) _ (fun u s' xx => ?_) PassesOwn.looking).run [] s σ H D (I.toTry _) h) (fun f s1 hsp => ?_) (fun e s1 he => he))
  · obtain ⟨a, B, sI, pins', σ', H', cls, d, rfl, J', nb, up, sky, na, os, ag, w⟩ := xx
    have J : Inv X pins σ' H' sI := J'.ofTry ok
    rw [hs] at sky
    show wpAny (model X.prog X.w) X.A (noteFrame (.ref a) X.env) _ _ _
    refine Sky.land Zc.steady fr hf sky fun h3 fl3 up3 => ?_
    have up03 := up.trans up3
    obtain ⟨o3, vs3, g3, z3, d3⟩ := fl3.there
    have out : a ∉ frs (X.env :: X.outer) := fun hm => by
      obtain ⟨_, o', e', hnf⟩ := fl3.2.2.1.mem hm
      rw [g3] at e'
      cases e'
      exact hnf _ d3
    have nL : a ≠ X.env.locals := fun z => out (List.mem_filterMap.mpr ⟨X.env, .head _, by rw [hf, z]⟩)
    have nF : a ∉ X.fs := fun hm => by
      obtain ⟨e, he, q⟩ := List.mem_filterMap.mp hm
      exact out (List.mem_filterMap.mpr ⟨e, .tail _ he, q⟩)
    have S3 := (show Inv X pins σ' H' { s' with heap := h3 } from J.landed nb fl3.1 up03 os ag).suite g3 d3 na nL nF
    have LT : PySem.W.Looks (model X.prog X.w) h3 (typeOf (.ref a)) cls := fun A Q E s k q => wpAny_typeOf_ref (k _ _ g3) (by rw [z3.1]; exact q)
    clear h
    revert w
    generalize c₁ :: hds = hdl at hh
    intro w
    induction hh with
    | nil =>
      refine wpAny_handleBy_nil ?_
      obtain ⟨_, _, _, oe, vs, T, oT, ts', g, hz, hd, h1, hr⟩ := id fl3
      unfold PySem.passOn
      refine wpAny_bind (wpAny_field g hd h1 ?_)
      rw [if_neg (show ¬ (Value.ref T == Value.none) = true by simp)]
      have fin : wpAny (model X.prog X.w) X.A (setFlight (.ref a) X.env.frame) (fun _ s4 => wpAny (model X.prog X.w) X.A (throw (.ref a) : Sem Flow) (SP X pins D) X.xe s4) X.xe { s' with heap := h3 } := by
        rw [hf]
        exact HandSPX.setFlight_upZ fl3 fun h4 hh4 up4 => wpAny_throw (tk _ _ ⟨a, B, sI, pins, σ', H', cls, d, rfl, J, nb, up03.trans up4, .inr (.inr (by rw [hs]; exact hh4)), na, os, ag, w⟩)
      first
        | exact wpAny_bind (wpAny_pure (wpAny_bind fin))
        | exact wpAny_bind fin
    | @cons x c ts b₁ more q1 q2 hds2 l2 hc su r ih =>
      obtain ⟨b, hb1, yes, no⟩ := w
      refine wpAny_handleBy_cons (codeAny_handlers_test ?_) (by intro q; cases q)
      have LM := PySem.W.exm_one (M := model X.prog X.w) S3.kIn LT hb1
      have named : ∀ {Q : Value → Shared → Prop} {E : Value → Shared → Prop}, Q c { s' with heap := h3 } → wpAny (model X.prog X.w) (X.A.mark (some (.ref a))) (eval (.Name x q1) X.env) Q E { s' with heap := h3 } := fun {Q E} q => by
        rcases hc with ⟨hg, hd0, hm | ⟨hm, hv, hn⟩⟩
        · exact ld_glob (X := X.suite a ((a, o3) :: (X.pn ++ pins))) S3 hg hm q hd0
        · exact ld_blt (X := X.suite a ((a, o3) :: (X.pn ++ pins))) S3 hg hm hv q hn hd0
      refine named (LM.here ?_)
      cases b with
      | false => exact ih (no rfl)
      | true =>
        refine codeAny_handlers_suite_as (HandSPX.lands_againZ fl3 fun h4 fl4 up4 => ?_)
        obtain ⟨o4, vs4, g4, z4, d4⟩ := fl4.there
        have S4 := (show Inv X pins σ' H' { s' with heap := h4 } from J.landed nb fl4.1 (up03.trans up4) os ag).suite g4 d4 na nL nF
        refine store_ok (X := X.suite a ((a, o4) :: (X.pn ++ pins))) (v := .ref a) S4 nd at_ (.inl lc) rfl (fun s5 S5 => ?_) (.inr lc)
        exact wpAny_mono ((su a o4 cls d (X.pn ++ pins) z4 ⟨_, d4⟩).run [] s5 _ H' _ S5 (yes rfl a na)) (fun f s6 hsp => suite_ends ok nd at_ lc hsp rfl) (fun _ _ z => z.elim)
  · cases f with
    | ret u => obtain ⟨v, σ1, H1, J, r, q⟩ := hsp; exact ⟨v, σ1, H1, J.ofTry ok, r, q⟩
    | next => obtain ⟨σ1, H1, J, q⟩ := hsp; exact wpAny_execs_nil ⟨σ1, H1, J.ofTry ok, q⟩
    | brk => obtain ⟨σ1, H1, J, q⟩ := hsp; exact ⟨σ1, H1, J.ofTry ok, q⟩
    | cont => obtain ⟨σ1, H1, J, q⟩ := hsp; exact ⟨σ1, H1, J.ofTry ok, q⟩
end
end Kx

set_option maxHeartbeats 4000000
/-! == of tuples and in, where the items have an own __eq__ with either answer -/
namespace Kx
open PySem PySem.Spec PyProof.Rows L2
open AutoSeq1 (wpAny_loadPart')
open MeetsSeq MeetsSeq2 MeetsSeq3 SeqRoads2
section
variable {prog : Program} {w : World} {A : Around} {R : Result → Shared → Prop}
theorem any_upto {N i : Nat} {e : Nat → Bool} (h : i < N) (y : e i = true) : (List.range N).any e = true := List.any_eq_true.mpr ⟨i, List.mem_range.mpr h, y⟩
theorem any_none {N : Nat} {e : Nat → Bool} (h : ∀ j, j < N → e j = false) : (List.range N).any e = false := List.any_eq_false.mpr fun j hj => by rw [h j (List.mem_range.mp hj)]; exact Bool.false_ne_true
/-- what is known of a list while it is looked through -/
def ListB (prog : Program) (w : World) (A : Around) (R : Result → Shared → Prop) (l : Addr) (x : Value) (N : Nat) (e : Nat → Bool) (I : Shared → Prop) : Prop :=
  ∀ s, I s → ∃ (dd : Option Addr) (sl : Array (Option Value)) (its : Array Value) (n : Nat), s.heap.get? l = some { cls := .type "list", dict := dd, data := .seq its n, slots := sl } ∧ its.size = N ∧ ∀ i (h : i < its.size), wpAny (model prog w) A.in1 (eqBool its[i] x) (fun r s' => r = e i ∧ I s') (fun er s' => R (.error er) s') s
theorem list_hasB (l : Addr) (x : Value) (N : Nat) (e : Nat → Bool) (I : Shared → Prop) (rd : ListB prog w A R l x N e I) (fin : ∀ s, I s → R (.ok (.ret (.bool ((List.range N).any e)))) s) (k : Nat) :
    ∀ i : Nat, N - i = k → (∀ j, j < i → e j = false) → ∀ s, I s → wpAny (model prog w) A.in1 (Builtin.«list.__contains__.loop» ⟨[.ref l, x, rawInt i], []⟩) (GQ.FinOf prog w A R) (fun er s' => R (.error er) s') s := by
  induction k with
  | zero =>
    intro i hk none s h
    obtain ⟨dd, sl, its, n, g, sz, _⟩ := rd s h
    have q := fin s h
    rw [any_none fun j hj => none j (by omega)] at q
    obtain ⟨hp, g1, d, tk, os⟩ := s
    wp_walk using wpAny_loadPart' g
    have no : its[((i : Nat) : Int).toNat]? = Option.none := by simp; omega
    rw [no]
    wp_walk
    exact q
  | succ k ih =>
    intro i hk none s h
    obtain ⟨dd, sl, its, n, g, sz, turn⟩ := rd s h
    have lt : i < its.size := by omega
    have t := turn i lt
    obtain ⟨hp, g1, d, tk, os⟩ := s
    wp_walk using wpAny_loadPart' g
    have yes : its[((i : Nat) : Int).toNat]? = some its[i] := by simp [lt]
    rw [yes]
    refine wpAny_bind (wpAny_mono t (fun r s2 z => ?_) fun _ _ z => z)
    obtain ⟨rfl, h2⟩ := z
    cases b : e i with
    | true =>
      have q := fin s2 h2
      rw [any_upto (by omega) b] at q
      obtain ⟨hp2, g2, d2, tk2, os2⟩ := s2
      wp_walk
      exact q
    | false =>
      have rec_ := ih (i + 1) (by omega) (fun j hj => by
        by_cases ej : j = i
        · rw [ej]; exact b
        · exact none j (by omega)) s2 h2
      have c1 : ((i : Int) + 1) = ((i + 1 : Nat) : Int) := by omega
      obtain ⟨hp2, g2, d2, tk2, os2⟩ := s2
      wp_walk
      rw [c1]
      exact ⟨plainId_quiet plain_contains_loop _, codeAny_builtin entry_contains_loop (by rw [Around.under_plainId plain_contains_loop _]; exact rec_)⟩
theorem list_inB (l : Addr) (x : Value) (N : Nat) (e : Nat → Bool) (I : Shared → Prop) (rd : ListB prog w A R l x N e I) (fin : ∀ s, I s → R (.ok (.ret (.bool ((List.range N).any e)))) s) {s : Shared} (h : I s) :
    wpAny (model prog w) A.in1 (Builtin.«list.__contains__» ⟨[.ref l, x], []⟩) (GQ.FinOf prog w A R) (fun er s' => R (.error er) s') s := by
  obtain ⟨dd, sl, its, n, g, sz, _⟩ := rd s h
  have rec_ := list_hasB l x N e I rd fin _ 0 rfl (fun j hj => absurd hj (Nat.not_lt_zero j)) s h
  obtain ⟨hp, g1, d, tk, os⟩ := s
  wp_walk using wpAny_loadPart' g
  exact ⟨plainId_quiet plain_contains_loop _, codeAny_builtin entry_contains_loop (by rw [Around.under_plainId plain_contains_loop _]; exact rec_)⟩
theorem tuple_inB (l : Addr) (its : Array Value) (n : Nat) (dd : Option Addr) (sl : Array (Option Value)) (x : Value) (e : Nat → Bool) (I : Shared → Prop)
    (turn : ∀ i (h : i < its.size) s, I s → wpAny (model prog w) A.in1 (eqBool its[i] x) (fun r s' => r = e i ∧ I s') (fun er s' => R (.error er) s') s) (fin : ∀ s, I s → R (.ok (.ret (.bool ((List.range its.size).any e)))) s) {s : Shared}
    (g : s.heap.get? l = some { cls := .type "tuple", dict := dd, data := .seq its n, slots := sl }) (h : I s) :
    wpAny (model prog w) A.in1 (Builtin.«tuple.__contains__» ⟨[.ref l, x], []⟩) (GQ.FinOf prog w A R) (fun er s' => R (.error er) s') s := by
  have h0 := h
  obtain ⟨hp, g1, d, tk, os⟩ := s
  wp_walk using wpAny_loadPart' g, wpAny_forIn_array _ (fun rest b s' => b.1 = none ∧ ∃ i, rest = its.toList.drop i ∧ (∀ j, j < i → e j = false) ∧ I s') _
  case turn =>
    rintro y rest b s' ⟨hb, i, hz, none, h1⟩
    have lt : i < its.toList.length := by
      rcases Nat.lt_or_ge i its.toList.length with z | z
      · exact z
      · rw [List.drop_of_length_le z] at hz; cases hz
    have lt2 : i < its.size := by simpa using lt
    rw [List.drop_eq_getElem_cons lt] at hz
    injection hz with e1 e2
    have ey : y = its[i] := by rw [e1]; simp
    subst ey
    refine wpAny_bind (wpAny_mono (turn i lt2 s' h1) (fun r s2 z => ?_) fun _ _ z => z)
    obtain ⟨rfl, h2⟩ := z
    cases b' : e i with
    | true =>
      have q := fin s2 h2
      rw [any_upto lt2 b'] at q
      wp_walk
      exact q
    | false =>
      wp_walk
      refine ⟨rfl, i + 1, e2, fun j hj => ?_, h2⟩
      by_cases ej : j = i
      · rw [ej]; exact b'
      · exact none j (by omega)
  case fin =>
    rintro ⟨b1, b2⟩ s' ⟨hb, i, hz, none, h1⟩
    simp only at hb
    subst hb
    have ge : its.size ≤ i := by
      rcases Nat.lt_or_ge i its.toList.length with z | z
      · rw [List.drop_eq_getElem_cons z] at hz; cases hz
      · simpa using z
    have q := fin s' h1
    rw [any_none fun j hj => none j (by omega)] at q
    wp_walk
    exact q
  case h =>
    exact ⟨rfl, 0, by simp, fun j hj => absurd hj (Nat.not_lt_zero j), h0⟩
theorem all_upto {N i : Nat} {e : Nat → Bool} (h : i < N) (y : e i = false) : (List.range N).all e = false := List.all_eq_false.mpr ⟨i, List.mem_range.mpr h, by rw [y]; exact Bool.false_ne_true⟩
theorem all_yes {N : Nat} {e : Nat → Bool} (h : ∀ j, j < N → e j = true) : (List.range N).all e = true := List.all_eq_true.mpr fun j hj => h j (List.mem_range.mp hj)
theorem tuple_eqB (l b : Addr) (its jts : Array Value) (n n2 : Nat) (dd dd2 : Option Addr) (sl sl2 : Array (Option Value)) (e : Nat → Bool) (I : Shared → Prop)
    (turn : ∀ i (h1 : i < its.size) (h2 : i < jts.size) s, I s → wpAny (model prog w) A.in1 (eqBool its[i] jts[i]) (fun r s' => r = e i ∧ I s') (fun er s' => R (.error er) s') s)
    (fin : ∀ s, I s → R (.ok (.ret (.bool ((List.range (min its.size jts.size)).all e && its.size == jts.size)))) s) {s : Shared} (g : s.heap.get? l = some { cls := .type "tuple", dict := dd, data := .seq its n, slots := sl })
    (g' : s.heap.get? b = some { cls := .type "tuple", dict := dd2, data := .seq jts n2, slots := sl2 }) (h : I s) :
    wpAny (model prog w) A.in1 (Builtin.«tuple.__eq__» ⟨[.ref l, .ref b], []⟩) (GQ.FinOf prog w A R) (fun er s' => R (.error er) s') s := by
  have f2 := AutoSeq1.sub_tuple_tuple
  have zl : (its.toList.zip jts.toList).length = min its.size jts.size := by simp
  have h0 := h
  obtain ⟨hp, g1, d, tk, os⟩ := s
  wp_walk using wpAny_loadPart' g, wpAny_loadPart' g', wpAny_forIn_list _ (fun rest b s' => b.1 = none ∧ ∃ i, rest = (its.toList.zip jts.toList).drop i ∧ (∀ j, j < i → e j = true) ∧ I s') _
  case turn =>
    rintro ⟨y, x⟩ rest b s' ⟨hb, i, hz, yes, h1⟩
    have lt : i < (its.toList.zip jts.toList).length := by
      rcases Nat.lt_or_ge i (its.toList.zip jts.toList).length with z | z
      · exact z
      · rw [List.drop_of_length_le z] at hz; cases hz
    have lm : i < min its.size jts.size := zl ▸ lt
    have l1 : i < its.size := by omega
    have l2 : i < jts.size := by omega
    rw [List.drop_eq_getElem_cons lt] at hz
    injection hz with e1 e2
    have ey : y = its[i] := by have q := congrArg Prod.fst e1; simpa using q
    have ex : x = jts[i] := by have q := congrArg Prod.snd e1; simpa using q
    subst ey ex
    refine wpAny_bind (wpAny_mono (turn i l1 l2 s' h1) (fun r s2 z => ?_) fun _ _ z => z)
    obtain ⟨rfl, h2⟩ := z
    cases b' : e i with
    | false =>
      have q := fin s2 h2
      rw [all_upto lm b'] at q
      wp_walk
      exact q
    | true =>
      wp_walk
      refine ⟨rfl, i + 1, e2, fun j hj => ?_, h2⟩
      by_cases ej : j = i
      · rw [ej]; exact b'
      · exact yes j (by omega)
  case fin =>
    rintro ⟨b1, b2⟩ s' ⟨hb, i, hz, yes, h1⟩
    simp only at hb
    subst hb
    have ge : min its.size jts.size ≤ i := by
      rcases Nat.lt_or_ge i (its.toList.zip jts.toList).length with z | z
      · rw [List.drop_eq_getElem_cons z] at hz; cases hz
      · exact zl ▸ z
    have q := fin s' h1
    rw [all_yes fun j hj => yes j (by omega)] at q
    wp_walk
    simpa [Builtin.Tuple.tupleCompareSizes] using q
  case h =>
    exact ⟨rfl, 0, rfl, fun j hj => absurd hj (Nat.not_lt_zero j), h0⟩
end
/-- how two things compare, by the heap -/
abbrev EqvB := V → V → Bool → Hp → Prop
def EqB (X : Cx) (n : Nat) (D : EqvB) : Prop :=
  ∀ (A : Around) (pins : List (Addr × Obj)) (s : Shared) (σ : L2.St) (H : Hp) (x y : V) (b : Bool) (u v : Value), Sub X n A → Inv X pins σ H s → RelV x u → RelV y v → D x y b H → wpAny (model X.prog X.w) A (eqBool u v) (fun r s' => r = b ∧ Inv X pins σ H s') X.xe s
section
variable {X : Cx} {n : Nat} {D : EqvB}
theorem turnB (h : EqB X n D) {A : Around} (sb : Sub X (n + 1) A) {pins : List (Addr × Obj)} {σ : L2.St} {H : Hp} {x y : V} {b : Bool} {u v : Value} (rx : RelV x u) (ry : RelV y v) (d : D x y b H) (s' : Shared) (I : Inv X pins σ H s') :
    wpAny (model X.prog X.w) A.in1 (eqBool u v) (fun r s2 => r = b ∧ Inv X pins σ H s2) X.xe s' := h A.in1 pins s' σ H x y b u v sb.in1 I rx ry d
theorem got {xs : List V} {its : List Value} (r : Vals xs its) {i : Nat} (h : i < its.toArray.size) : ∃ z, xs[i]? = some z ∧ RelV z its.toArray[i] := by
  have h' : i < its.length := by simpa using h
  have k : i < xs.length := by rw [r.length]; exact h'
  obtain ⟨u, hu, ru⟩ := r.get (List.getElem?_eq_getElem k)
  rw [List.getElem?_eq_getElem h'] at hu
  refine ⟨_, List.getElem?_eq_getElem k, ?_⟩
  have e : its.toArray[i] = u := by rw [← Option.some.inj hu]; simp
  rw [e]
  exact ru
def rInB (K : PySem.W.Frag) (D : EqvB) : R2 := fun x y H Q => ∃ p xs e, y = .ref p ∧ (SqL K H p xs ∨ SqT K H p xs) ∧ (∀ i z, xs[i]? = some z → D z x (e i) H) ∧ Q (.bl ((List.range xs.length).any e)) H
theorem op_inB (h : EqB X n D) (hr : Room (n + 1) X.A) : OpR X (compareOp .In) (rInB X.K D) := by
  intro pins s σ H x y v u Q I rx ry hq
  obtain ⟨p, xs, e, rfl, hs, hd, q⟩ := hq
  obtain rfl : u = Value.ref p := ry
  have sb : Sub X (n + 1) X.A := ⟨hr, rfl⟩
  show wpAny (model X.prog X.w) X.A (contains (.ref p) v >>= fun b => pure (Value.bool b)) _ _ s
  refine wpAny_bind ?_
  rcases hs with hs | hs
  · obtain ⟨its, rv, pl, hz⟩ := I.list hs
    obtain ⟨o, no, ho, hc, _⟩ := id pl
    refine wpAny_contains_slot ⟨_, ho, hc⟩ F.slot_list_contains (GQ.call_here F.slot_list_contains ⟨_, ho, hc⟩ F.entry_list_contains (F.args_list_contains_2 _ _) ?_)
    refine list_inB (R := wants (fun r s' => wpAny (model X.prog X.w) X.A (truthy r) (fun b s'' => wpAny (model X.prog X.w) X.A (pure (Value.bool b)) (EP X pins σ Q) X.xe s'') X.xe s') X.xe) p v xs.length e (fun s' => Inv X pins σ H s') (fun s' I' => ?_) (fun s' I' => wpAny_truthy_bool (wpAny_pure ⟨.bl _, H, I', rfl, q⟩)) I
    obtain ⟨its', rv', pl', hz'⟩ := I'.list hs
    obtain ⟨⟨cl, dd, dt, sl⟩, n', ho', hc', hd', ht'⟩ := id pl'
    simp only at hc' hd' ht'
    subst hc' hd' ht'
    refine ⟨_, _, its'.toArray, n', ho', by rw [List.size_toArray, ← rv'.length], fun i hi => ?_⟩
    obtain ⟨z, hz, rz⟩ := got rv' hi
    exact turnB h sb rz rx (hd i z hz) s' I'
  · obtain ⟨its, rv, pl, hz⟩ := I.tuple hs
    obtain ⟨⟨cl, dd, dt, sl⟩, ho, hc, n', hdt⟩ := id pl
    simp only at hc hdt
    subst hc hdt
    refine wpAny_contains_slot ⟨_, ho, rfl⟩ F.slot_tuple_contains (GQ.call_here F.slot_tuple_contains ⟨_, ho, rfl⟩ F.entry_tuple_contains (F.args_tuple_contains_2 _ _) ?_)
    refine tuple_inB (R := wants (fun r s' => wpAny (model X.prog X.w) X.A (truthy r) (fun b s'' => wpAny (model X.prog X.w) X.A (pure (Value.bool b)) (EP X pins σ Q) X.xe s'') X.xe s') X.xe) p its.toArray n' dd sl v e (fun s' => Inv X pins σ H s') (fun i hi s' I' => ?_) (fun s' I' => wpAny_truthy_bool (wpAny_pure ⟨.bl _, H, I', rfl, ?_⟩)) ho I
    · obtain ⟨z, hz, rz⟩ := got rv hi
      exact turnB h sb rz rx (hd i z hz) s' I'
    · rw [List.size_toArray, ← rv.length]
      exact q
def rEqB (K : PySem.W.Frag) (D : EqvB) : R2 := fun x y H Q => ∃ a b xs ys e, x = .ref a ∧ y = .ref b ∧ SqT K H a xs ∧ SqT K H b ys ∧ (∀ i z w, xs[i]? = some z → ys[i]? = some w → D z w (e i) H) ∧ Q (.bl ((List.range (min xs.length ys.length)).all e && xs.length == ys.length)) H
theorem op_eqB (h : EqB X n D) (hr : Room (n + 1) X.A) : OpR X (compareOp .Eq) (rEqB X.K D) := by
  intro pins s σ H x y v u Q I rx ry hq
  obtain ⟨a, b, xs, ys, e, rfl, rfl, ha, hb, hd, q⟩ := hq
  obtain rfl : v = Value.ref a := rx
  obtain rfl : u = Value.ref b := ry
  have sb : Sub X (n + 1) X.A := ⟨hr, rfl⟩
  obtain ⟨its, rv, pl, _⟩ := I.tuple ha
  obtain ⟨jts, ru, pu, _⟩ := I.tuple hb
  obtain ⟨⟨cl, dd, dt, sl⟩, ho, hc, n1, hdt⟩ := id pl
  obtain ⟨⟨cl2, dd2, dt2, sl2⟩, ho2, hc2, n2, hdt2⟩ := id pu
  simp only at hc hdt hc2 hdt2
  subst hc hdt hc2 hdt2
  refine wpAny_richCompare_same_room (op := .Eq) ⟨_, ho, rfl⟩ ⟨_, ho2, rfl⟩ F.slot_tuple_eq (GQ.call_here F.slot_tuple_eq ⟨_, ho, rfl⟩ F.entry_tuple_eq (F.args_tuple_eq_2 _ _) ?_) hr.units0
  refine tuple_eqB (R := wants (fun v s' => v ≠ .notImplemented ∧ EP X pins σ Q v s') X.xe) a b its.toArray jts.toArray n1 n2 dd dd2 sl sl2 e (fun s' => Inv X pins σ H s') (fun i h1 h2 s' I' => ?_) (fun s' I' => ⟨(fun z => nomatch z), .bl _, H, I', rfl, ?_⟩) ho ho2 I
  · obtain ⟨z, hz, rz⟩ := got rv h1
    obtain ⟨z2, hz2, rz2⟩ := got ru h2
    exact turnB h sb rz rz2 (hd i z z2 hz hz2) s' I'
  · rw [List.size_toArray, List.size_toArray, ← rv.length, ← ru.length]
    exact q
/-- two instances by the left one's own __eq__ -/
theorem eqB_own {C C' g : Addr} {sp : Sp} {E : XK} {CXx : CXT} (hs : PySem.W.findIn X.K (.ref C) "__eq__" = some (some (.ref g))) (hf : PySem.W.isFn X.K (.ref g) = true) (F : FnR X.prog X.w X.K X.mg X.base CXx n g sp) (hx : Passes CXx X E) (hn : PySem.W.notFirst X.K C (.ref C') = true)
    {A : Around} {pins : List (Addr × Obj)} {s : Shared} {σ : L2.St} {H : Hp} {a b dx dy : Addr} {fs gs : List (Str × V)} {r : Bool} (sb : Sub X n A) (I : Inv X pins σ H s) (ha : H a = some (.ins C dx fs)) (hb : H b = some (.ins C' dy gs)) (hab : a = b → r = true)
    (h : sp [.ref a, .ref b] H (fun v H' => v = .bl r ∧ H' = H) E) : wpAny (model X.prog X.w) A (eqBool (.ref a) (.ref b)) (fun r' s' => r' = r ∧ Inv X pins σ H s') X.xe s := by
  by_cases e : a = b
  · have er := hab e
    subst e er
    exact SeqAt.EqAt.same (A := A) (s := s) (.ref a) X.prog X.w X.xe _ ⟨rfl, I⟩
  · obtain ⟨ox, od, J⟩ := inst_of I ha
    obtain ⟨ox', od', J'⟩ := inst_of I hb
    obtain ⟨m, hF⟩ := I.fr
    refine GQ.eqBool_refG e (PySem.W.cmp_K (op := .Eq) sb.room.units0 hF I.ok.mod.kin J J'.type hn hs hf ?_)
    have e0 : Env0 X.prog X.w X.K X.mg X.base A X.stack s H := by
      have z := I.env0
      exact ⟨by rw [sb.fr]; exact z.frames, z.mod, z.bs, z.bsz, z.funs, z.frf, z.hok, z.bare⟩
    refine wpAny_call (codeAny_mono (F A X.stack s H [.ref a, .ref b] [.ref a, .ref b] _ E sb.room e0 (.cons rfl (.cons rfl .nil)) h) fun rr s' hq => ?_)
    rcases rr with er | (_ | _ | _ | w)
    · exact hx pins σ H s er s' I hq
    · exact hq.elim
    · exact hq.elim
    · exact hq.elim
    · obtain ⟨z, H', I', rz, ez, eh⟩ := I.after hq
      subst ez eh
      obtain rfl : w = Value.bool r := rz
      exact ⟨r, rfl, rfl, I'⟩
end
/-! C() of a class without an __init__ of its own -/
section
variable {X : Cx} {C : Addr} {x : Str} {p pos : Pos}
/-- what such a class must be -/
structure Mk0 (K : PySem.W.Frag) (C : Addr) : Prop where
  makes : PySem.W.makesIn K C = true
  init : PySem.W.findIn K (.ref C) "__init__" = some (some (.builtin "object.__init__"))
  kp : PySem.W.keepIn K (.ref C) = true
  top : PySem.W.mroIn K C (.type "object") = some true
def tMake0 (C : Addr) : TE := fun _ H Q => ∀ a dx, H a = none → H dx = none → dx ≠ a → Q (.ref a) (upd (upd H dx (.own a)) a (.ins C dx []))
theorem pe_make00 (M : Mk0 X.K C) (hg : Gl X x) (hm : X.mg x = some (.ref C)) (hdb : (x == ("__debug__" : Str)) = false := by decide) : PE X (.Call (.Name x p) [] [] pos) (tMake0 C) := by
  refine ⟨fun pins s σ H Q I h => wpAny_Call_Name_kw (ld_glob I hg hm (PySem.W.callWith_K0 I.kIn M.kp (wpAny_call (make_map0 I.kIn M.makes M.init (fun self => PySem.W.Looks.of_pure (PySem.W.oi_bind _)) ?_))) hdb)⟩
  have J := Inv.made (C := C) I
  obtain ⟨mA, O, _⟩ := ins_get J.hok upd_same
  obtain ⟨od, O, _⟩ := O.look
  refine codeAny_call_builtin PySem.W.oi_plain PySem.W.entry_oi (PySem.W.check_slot PySem.W.oi_kind PySem.W.oi_split (O.type.andThen (PySem.W.looks_mroIn J.kIn M.top)) (NwA.oi_args_any _ _ _) ?_)
  rw [PySem.W.oi_run]
  exact wpAny_pure ⟨rfl, .ref _, _, J, rfl, h _ _ (I.hok.fresh (Nat.le_succ _)) (I.hok.fresh (Nat.le_refl _)) (Nat.ne_of_lt (Nat.lt_succ_self _))⟩
/-- one of many readings -/
theorem pe_ex {α : Type} {e : Expr} {t : α → TE} (h : ∀ k, PE X e (t k)) : PE X e (fun σ H Q => ∃ k, t k σ H Q) := ⟨fun pins s σ H Q I ⟨k, q⟩ => (h k).run pins s σ H Q I q⟩
theorem or_ex {α : Type} {f : Value → Value → Sem Value} {r : α → R2} (h : ∀ k, OpR X f (r k)) : OpR X f (fun x y H Q => ∃ k, r k x y H Q) := fun pins s σ H x y v u Q I rx ry ⟨k, q⟩ => h k pins s σ H x y v u Q I rx ry q
end
end Kx

set_option maxHeartbeats 4000000
/-! == and != by an own __eq__, the other thing of any known type that doesn't go first -/
namespace Kx
open PySem PySem.Spec PyProof.Rows L2
section
variable {X : Cx} {C g : Addr} {sp : Sp} {E : XK} {CXx : CXT} {n : Nat}
def rEqX (K : PySem.W.Frag) (C : Addr) (sp : Sp) (E : XK) : R2 := fun x y H Q => ∃ a dx fs t, x = .ref a ∧ H a = some (.ins C dx fs) ∧ TyX K H y t ∧ PySem.W.notFirst K C t = true ∧ sp [.ref a, y] H (fun z H' => ∃ b, z = .bl b ∧ Q (.bl b) H') E
def rNeX (K : PySem.W.Frag) (C : Addr) (sp : Sp) (E : XK) : R2 := fun x y H Q => ∃ a dx fs t, x = .ref a ∧ H a = some (.ins C dx fs) ∧ TyX K H y t ∧ PySem.W.notFirst K C t = true ∧ sp [.ref a, y] H (fun z H' => ∃ b, z = .bl b ∧ Q (.bl (!b)) H') E
theorem op_eqX (hs : PySem.W.findIn X.K (.ref C) "__eq__" = some (some (.ref g))) (hf : PySem.W.isFn X.K (.ref g) = true) (F : FnR X.prog X.w X.K X.mg X.base CXx n g sp) (hr : Room n X.A) (hx : Passes CXx X E) : OpR X (compareOp .Eq) (rEqX X.K C sp E) := by
  intro pins s σ H x y v u Q I rx ry h
  obtain ⟨a, dx, fs, t, rfl, ha, ty, hn, q⟩ := h
  obtain rfl : v = Value.ref a := rx
  obtain ⟨ox, od, J⟩ := inst_of I ha
  obtain ⟨m, hF⟩ := I.fr
  obtain ⟨Pz, Z, pz, _⟩ := kit_of I ry ty
  refine PySem.W.cmp_K (op := .Eq) hr.units0 hF I.ok.mod.kin J (Z.ty _ _ I.kIn pz) hn hs hf (wpAny_mono (wpAny_call (run_fnR (us := [.ref a, u]) (vs := [.ref a, y]) F hr hx I (.cons rfl (.cons ry .nil)) q)) (fun w s' z => ?_) fun _ _ x => x)
  obtain ⟨z', H', I', rz, b, rfl, qz⟩ := z
  obtain rfl : w = Value.bool b := rz
  exact ⟨.bl b, H', I', rfl, qz⟩
theorem op_neX (hm : PySem.W.mroIn X.K C (.type "object") = some true) (hne : PySem.W.findIn X.K (.ref C) "__ne__" = some (some (.builtin "object.__ne__"))) (hs : PySem.W.findIn X.K (.ref C) "__eq__" = some (some (.ref g))) (hf : PySem.W.isFn X.K (.ref g) = true) (F : FnR X.prog X.w X.K X.mg X.base CXx n g sp) (hr : Room (n + 1) X.A) (hx : Passes CXx X E) :
    OpR X (compareOp .NotEq) (rNeX X.K C sp E) := by
  intro pins s σ H x y v u Q I rx ry h
  obtain ⟨a, dx, fs, t, rfl, ha, ty, hn, q⟩ := h
  obtain rfl : v = Value.ref a := rx
  obtain ⟨ox, od, J⟩ := inst_of I ha
  obtain ⟨m, hF⟩ := I.fr
  obtain ⟨Pz, Z, pz, _⟩ := kit_of I ry ty
  have run : codeAny (model X.prog X.w) X.A.in1 (.call (.ref g) ⟨[.ref a, u], []⟩) (fun r s' => match r with | .ok (.ret v) => EP X pins σ (fun z H' => ∃ c, z = .bl c ∧ Q (.bl (!c)) H') v s' | .ok _ => False | .error e => X.xe e s') s := by
    refine codeAny_mono (F X.A.in1 X.stack s H [.ref a, u] [.ref a, y] _ E hr.in1 I.env0.in1 (.cons rfl (.cons ry .nil)) q) fun r s' hq => ?_
    rcases r with e | (_ | _ | _ | u)
    · exact hx pins σ H s e s' I hq
    · exact hq.elim
    · exact hq.elim
    · exact hq.elim
    · exact I.after hq
  refine rich_ne hr.units hF I.ok.mod.kin J (Z.ty _ _ I.kIn pz) hn hm hne hs hf (wpAny_mono (wpAny_call run) (fun w s' z => ?_) fun _ _ x => x)
  obtain ⟨z', H', I', rz, c, rfl, qz⟩ := z
  obtain rfl : w = Value.bool c := rz
  exact ⟨.bl (!c), H', I', rfl, qz⟩
end
end Kx

set_option maxHeartbeats 4000000
namespace Kx
open PySem L2
/-! the parts of a stand, as data -/
theorem eqv_str (a b : Str) : PyData.eqv (.str a) (.str b) = decide (a = b) := by
  by_cases h : a = b
  · subst h
    simp [PyData.eqv]
  · simp [PyData.eqv, h]
theorem lay_map {α : Type} {f : α → PyData} {n : Nat} : ∀ {xs : List α}, (∀ x ∈ xs, PyData.canLay0 (f x) = true ∧ PyData.depth (f x) ≤ n) → PyData.canLayAll0 (xs.map f) = true ∧ PyData.depthAll (xs.map f) ≤ n
  | [], _ => ⟨rfl, Nat.zero_le _⟩
  | x :: xs, h => by
    obtain ⟨h1, h2⟩ := h x (.head _)
    obtain ⟨h3, h4⟩ := lay_map (xs := xs) fun y m => h y (.tail _ m)
    refine ⟨?_, Nat.max_le.mpr ⟨h2, h4⟩⟩
    show (PyData.canLay0 (f x) && PyData.canLayAll0 (xs.map f)) = true
    rw [h1, h3]
    rfl
theorem lab_fine {z : Str} (h : isLab z = true) : PyData.strOk z = true := low_ok (lab_low h).1
theorem dpAll_of {K : PySem.W.Frag} {H : Hp} {α : Type} {F : V → α → Prop} {f : α → PyData} (hf : ∀ x a, F x a → Dp K H x (f a)) {xs : List V} {as : List α} (h : Paired F xs as) : DpAll K H xs (as.map f) := by
  induction h with
  | nil => exact .nil
  | cons h t ih => exact .cons (hf _ _ h) ih
section
variable {P : Program} {w : World} {K : PySem.W.Frag} {mg : Str → Option Value} {base : Heap}
end
end Kx


set_option maxHeartbeats 4000000
namespace Kx
open PySem L2
/-! the thirteen pieces, in plain words -/
inductive Sh | r | s | n | c | k
deriving DecidableEq
inductive Pk | room | notroom | is_ | isnot | same | apart | least | below | to | put | zero | run | halt
deriving DecidableEq
def Sh.names : Sh → List Str
  | .r => ["room"]
  | .s => ["seat", "what"]
  | .n => []
  | .c => ["clock", "number"]
  | .k => ["clock"]
def Pk.sh : Pk → Sh
  | .room => .r
  | .notroom => .r
  | .is_ => .s
  | .isnot => .s
  | .same => .n
  | .apart => .n
  | .least => .c
  | .below => .c
  | .to => .r
  | .put => .s
  | .zero => .k
  | .run => .k
  | .halt => .k
abbrev Pk.names (k : Pk) : List Str := k.sh.names
def Pk.word : Pk → Str
  | .room => "room"
  | .notroom => "notroom"
  | .is_ => "is"
  | .isnot => "isnot"
  | .same => "same"
  | .apart => "apart"
  | .least => "least"
  | .below => "below"
  | .to => "to"
  | .put => "put"
  | .zero => "zero"
  | .run => "run"
  | .halt => "halt"
def Pk.cond : Pk → Bool
  | .to => false
  | .put => false
  | .zero => false
  | .run => false
  | .halt => false
  | _ => true
def Pk.opp : Pk → Pk
  | .room => .notroom
  | .notroom => .room
  | .is_ => .isnot
  | .isnot => .is_
  | .same => .apart
  | .apart => .same
  | .least => .below
  | .below => .least
  | k => k
theorem opp_sh (k : Pk) : k.opp.sh = k.sh := by cases k <;> rfl
theorem opp_opp (k : Pk) : k.opp.opp = k := by cases k <;> rfl
theorem opp_cond (k : Pk) : k.opp.cond = k.cond := by cases k <;> rfl
theorem opp_ne {k : Pk} (h : k.cond = true) : k.opp ≠ k := by cases k <;> first | decide | cases h
theorem word_inj : ∀ {j k : Pk}, j.word = k.word → j = k := by
  intro j k h
  cases j <;> cases k <;> first | rfl | exact absurd h (by decide +kernel)
def noSeats : List Str := ["first", "second", "nobody"]
def seatV (x : V) : Bool := match x with
  | .str z => isLab z && !decide (z ∈ noSeats)
  | _ => false
theorem seatV_lab {x : V} (h : seatV x = true) : labV x = true := by
  cases x with
  | str z =>
    have h : (isLab z && !decide (z ∈ noSeats)) = true := h
    rw [Bool.and_eq_true] at h
    exact h.1
  | _ => cases h
def whatF (w : Str) : List (Str × V) := [("what", .str w)]
def seatW (x y : V) : Option Str := if seatV x then (if labV y && !decide (x = y) then none else some (Str.ofString "what")) else some (Str.ofString "seat")
def numW (x y : V) : Option Str := if labV x then (if wholeV y 1 40 then none else some (Str.ofString "number")) else some (Str.ofString "clock")
/-- the first word that applies, or none -/
def Sh.pw : Sh → List V → Option Str
  | .r, [x] => if labV x then none else some (Str.ofString "room")
  | .s, [x, y] => seatW x y
  | .n, [] => none
  | .c, [x, y] => numW x y
  | .k, [x] => if labV x then none else some (Str.ofString "clock")
  | _, _ => some (Str.ofString "")
abbrev Pk.pw (k : Pk) (args : List V) : Option Str := k.sh.pw args
/-- good things have good words -/
def GoodA (x : V) : Prop := (∃ z, x = .str z ∧ isLab z = true) ∨ ∃ i, x = .int i ∧ wholeV (.int i) 1 40 = true
theorem good_args {s : Sh} {args : List V} (h : s.pw args = none) : args.length = s.names.length ∧ ∀ x ∈ args, GoodA x := by
  cases s with
  | r =>
    rcases args with _ | ⟨x, _ | ⟨y, r⟩⟩
    · cases h
    · refine ⟨rfl, fun y hy => ?_⟩
      rw [List.mem_singleton.mp hy]
      have h : (if labV x then none else some (Str.ofString "room")) = none := h
      cases e : labV x with
      | true => obtain ⟨z, rfl, hz⟩ := lab_str e; exact .inl ⟨z, rfl, hz⟩
      | false => rw [e] at h; cases h
    · cases h
  | k =>
    rcases args with _ | ⟨x, _ | ⟨y, r⟩⟩
    · cases h
    · refine ⟨rfl, fun y hy => ?_⟩
      rw [List.mem_singleton.mp hy]
      have h : (if labV x then none else some (Str.ofString "clock")) = none := h
      cases e : labV x with
      | true => obtain ⟨z, rfl, hz⟩ := lab_str e; exact .inl ⟨z, rfl, hz⟩
      | false => rw [e] at h; cases h
    · cases h
  | n =>
    rcases args with _ | ⟨x, r⟩
    · exact ⟨rfl, fun y hy => nomatch hy⟩
    · cases h
  | s =>
    rcases args with _ | ⟨x, _ | ⟨y, _ | ⟨z, r⟩⟩⟩
    · cases h
    · cases h
    · have h : seatW x y = none := h
      unfold seatW at h
      cases e : seatV x with
      | false => rw [e] at h; cases h
      | true =>
        rw [e, if_pos rfl] at h
        cases e2 : labV y with
        | false => rw [e2] at h; cases h
        | true =>
          obtain ⟨z, rfl, hz⟩ := lab_str (seatV_lab e)
          obtain ⟨u, rfl, hu⟩ := lab_str e2
          refine ⟨rfl, fun a ha => ?_⟩
          rcases List.mem_cons.mp ha with rfl | ha
          · exact .inl ⟨z, rfl, hz⟩
          · rw [List.mem_singleton.mp ha]; exact .inl ⟨u, rfl, hu⟩
    · cases h
  | c =>
    rcases args with _ | ⟨x, _ | ⟨y, _ | ⟨z, r⟩⟩⟩
    · cases h
    · cases h
    · have h : numW x y = none := h
      unfold numW at h
      cases e : labV x with
      | false => rw [e] at h; cases h
      | true =>
        rw [e, if_pos rfl] at h
        cases e2 : wholeV y 1 40 with
        | false => rw [e2] at h; cases h
        | true =>
          obtain ⟨z, rfl, hz⟩ := lab_str e
          refine ⟨rfl, fun a ha => ?_⟩
          rcases List.mem_cons.mp ha with rfl | ha
          · exact .inl ⟨z, rfl, hz⟩
          · rw [List.mem_singleton.mp ha]
            cases y with
            | int i => exact .inr ⟨i, rfl, e2⟩
            | _ => cases e2
    · cases h
/-- what is known of a piece's class with these attributes -/
structure QC (K : PySem.W.Frag) (C : Addr) (fs : List Str) : Prop where
  cl : Cls K C
  no : ∀ f ∈ fs, NoAttr K C f
  ca : PySem.W.findIn K (.ref C) "__class__" = some (some (.builtin "object.__class__"))
  cg : PySem.W.specialIn K (.builtin "object.__class__") "__get__" = some (some (.builtin "getset_descriptor.__get__"))
  ct : PySem.W.takesIn K (.builtin "object.__class__") = some true
  cm : PySem.W.mroIn K C (.type "object") = some true
theorem QC.ty {K : PySem.W.Frag} {C : Addr} {gs : List Str} (k : QC K C gs) {H : Hp} {a dx : Addr} {fs : List (Str × V)} (h : H a = some (.ins C dx fs)) : TyX K H (.ref a) (.ref C) := .base (.ins h k.cl k.ca k.cg k.ct k.cm)
/-- the piece at a -/
structure PcA (Cs : Pk → Addr) (H : Hp) (a : Addr) (k : Pk) (args : List V) : Prop where
  ob : ∃ dx, H a = some (.ins (Cs k) dx (k.names.zip args))
  good : k.pw args = none
theorem PcA.keep {Cs : Pk → Addr} {H H' : Hp} {a : Addr} {k : Pk} {args : List V} (h : PcA Cs H a k args) (s : Same H H') : PcA Cs H' a k args := ⟨h.ob.imp fun dx e => s _ _ e, h.good⟩
def Things (H : Hp) (args : List V) : Prop := ∀ x ∈ args, ∃ n, Thing H x n
theorem Things.keep {H H' : Hp} {args : List V} (h : Things H args) (s : Same H H') : Things H' args := fun x m => (h x m).imp fun n t => t.keep s
theorem lab_thing {z : Str} {H : Hp} (h : isLab z = true) : Thing H (.str z) "str" := ⟨.str z, fun u e => by
  cases e
  unfold isLab at h
  rw [Bool.and_eq_true, Bool.and_eq_true] at h
  have h1 : z.length ≤ 6 := of_decide_eq_true h.2.1
  refine ⟨?_, by omega⟩
  refine low_ok fun c hc => ?_
  have q := List.all_eq_true.mp h.2.2 c hc
  unfold isLow at q
  rw [Bool.and_eq_true] at q
  exact ⟨of_decide_eq_true q.1, of_decide_eq_true q.2⟩⟩
theorem GoodA.thing {x : V} {H : Hp} (h : GoodA x) : ∃ n, Thing H x n := by
  rcases h with ⟨z, rfl, hz⟩ | ⟨i, rfl, _⟩
  · exact ⟨_, lab_thing hz⟩
  · exact ⟨_, .int i, fun z e => nomatch e⟩
theorem good_things {s : Sh} {args : List V} {H : Hp} (h : s.pw args = none) : Things H args := fun x m => ((good_args h).2 x m).thing
/-- the names that are no seats, the greatest number -/
def Ns8 (K : PySem.W.Frag) (mg : Str → Option Value) : Prop := (∃ a, mg "NO_SEATS" = some (.ref a) ∧ ∀ H : Hp, SqT K H a (noSeats.map V.str)) ∧ (∃ t, mg "GREATEST_NUMBER" = some (.int 40 t)) ∧ (∃ t, mg "MOST_CONDITIONS" = some (.int 6 t)) ∧ (∃ t, mg "MOST_CHANGES" = some (.int 8 t))
def spSeatName : Sp := fun vs H Q _ => ∃ (x : V) (n : String), vs = [x] ∧ Thing H x n ∧ Q (.bl (seatV x)) H
def spSF : Sp := fun vs H Q _ => ∃ (x y : V) (n m : String), vs = [x, y] ∧ Thing H x n ∧ Thing H y m ∧ Q (wordV (seatW x y)) H
def spNF : Sp := fun vs H Q _ => ∃ (x y : V) (n m : String), vs = [x, y] ∧ Thing H x n ∧ Thing H y m ∧ Q (wordV (numW x y)) H
/-- __init__ of a piece -/
def spI (s : Sh) (C CB : Addr) : Sp := fun vs H Q E => ∃ (p dx : Addr) (args : List V), vs = .ref p :: args ∧ args.length = s.names.length ∧ H p = some (.ins C dx []) ∧ Things H args ∧
  match s.pw args with
  | none => ∀ H', Keep H H' p → H' p = some (.ins C dx (s.names.zip args)) → Q .non H'
  | some w => ∀ d H', H d = none → Keep H H' p → H' d = some (.xd (whatF w)) → E (.ref CB) (some d) H'
section
variable {P : Program} {w : World} {K : PySem.W.Frag} {mg : Str → Option Value} {base : Heap}
theorem scIsSeatName : FnScope ["thing"] ["thing"] (defScope sIsSeatName) := ⟨rfl, rfl, rfl, by decide +kernel, rfl, by decide +kernel, by decide +kernel⟩
theorem ok_seatname {f : Addr} {fd : FuncData} (F : Fun K "is_seat_name" "is_seat_name" sIsSeatName f fd) (m : mg "is_seat_name" = some (.ref f)) (N : Ns8 K mg) (Lb : HasF P w K mg base "is_label" 1 ["thing"] spLabel) : HasF P w K mg base "is_seat_name" 2 ["thing"] spSeatName := by
  refine ⟨f, fd, ?_, m, F.kp, F.binds fun _ _ _ _ _ _ us hl => by obtain ⟨_, rfl⟩ := us1 hl; exact rfl⟩
  obtain ⟨f1, fd1, Lb⟩ := Lb
  obtain ⟨⟨na, mN, hN⟩, _⟩ := N
  refine F.ok scIsSeatName (fun vs H Q E h => ?_) (fun cdv A outer s H vs Q E hr h => ?_)
  · obtain ⟨a, b, rfl, _⟩ := h
    rfl
  · obtain ⟨x, n, rfl, tx, k⟩ := h
    refine ⟨_, pss_one (ps_ret (pe_and (pe_call Lb.G hr (by rfl) Lb.m Lb.kp Lb.b .nil pass0 (pa_cons (pv 0) pa_nil)) (pe_one (pe_cmpR op_notIn_seq (pv 0) (pe_glob (v := .ref na) rfl mN rfl) (by rfl))))), ?_⟩
    refine ⟨_, rfl, x, n, rfl, tx.kd, (fun z e => Nat.le_of_lt (small1000 (by have := (tx.fine z e).2; omega))), _, rfl, ?_⟩
    cases e : labV x with
    | false =>
      have e2 : seatV x = false := by
        cases q : seatV x with
        | false => rfl
        | true => rw [seatV_lab q] at e; cases e
      rw [e2] at k
      exact iteF k
    | true =>
      obtain ⟨z, rfl, hz⟩ := lab_str e
      refine iteT ⟨_, rfl, na, noSeats.map V.str, rfl, .inr (hN H), rfl, by decide, ?_⟩
      have e2 : seatV (.str z) = !inV (.str z) (noSeats.map V.str) := by
        show (isLab z && !decide (z ∈ noSeats)) = _
        rw [hz, inV_strs]
        rfl
      rw [e2] at k
      exact k
theorem Thing.short {H : Hp} {x : V} {n : String} (t : Thing H x n) : ∀ z, x = .str z → z.length ≤ sizeLine := fun z e => Nat.le_of_lt (small1000 (by have := (t.fine z e).2; omega))
theorem scSeatF : FnScope ["seat", "what"] ["seat", "what"] (defScope sSeatFault) := ⟨rfl, rfl, rfl, by decide +kernel, rfl, by decide +kernel, by decide +kernel⟩
theorem ok_seatf {f : Addr} {fd : FuncData} (F : Fun K "_seat_fault" "_seat_fault" sSeatFault f fd) (m : mg "_seat_fault" = some (.ref f)) (Lb : HasF P w K mg base "is_label" 1 ["thing"] spLabel) (Sn : HasF P w K mg base "is_seat_name" 2 ["thing"] spSeatName) : HasF P w K mg base "_seat_fault" 3 ["seat", "what"] spSF := by
  refine ⟨f, fd, ?_, m, F.kp, F.binds fun _ _ _ _ _ _ us hl => by obtain ⟨_, _, rfl⟩ := us2 hl; exact rfl⟩
  obtain ⟨f1, fd1, Lb⟩ := Lb; obtain ⟨f2, fd2, Sn⟩ := Sn
  refine F.ok scSeatF (fun vs H Q E h => ?_) (fun cdv A outer s H vs Q E hr h => ?_)
  · obtain ⟨a, b, c, d, rfl, _⟩ := h
    rfl
  · obtain ⟨x, y, n, m, rfl, tx, ty, k⟩ := h
    have hr1 : Room 1 _ := hr.mono (by decide)
    refine ⟨_, (pss_cons (ps_if (pt_not (pt_val (pe_call Sn.G hr (by rfl) Sn.m Sn.kp Sn.b .nil pass0 (pa_cons (pv 0) pa_nil)))) (pss_one (ps_ret pe_str)) pss_nil)
    (pss_cons (ps_if (PW.pt (pw_or (pt_not (pt_val (pe_call Lb.G hr1 (by rfl) Lb.m Lb.kp Lb.b .nil pass0 (pa_cons (pv 1) pa_nil)))) (pw_or1 (pt_cmpR op_eq (pv 1) (pv 0) (nomark _))))) (pss_one (ps_ret pe_str)) pss_nil)
    (pss_one (ps_ret pe_non)))), ?_⟩
    refine ⟨_, rfl, x, n, rfl, tx, _, rfl, ?_⟩
    unfold seatW at k
    cases e : seatV x with
    | false => rw [e, if_neg Bool.false_ne_true] at k; exact iteT k
    | true =>
      rw [e, if_pos rfl] at k
      refine iteF ⟨_, rfl, y, m, rfl, ty.kd, ty.short, _, rfl, ?_⟩
      cases e2 : labV y with
      | false => rw [e2] at k; exact iteT k
      | true =>
        obtain ⟨z, rfl, _⟩ := lab_str (seatV_lab e)
        obtain ⟨u, rfl, _⟩ := lab_str e2
        rw [e2, Bool.true_and] at k
        refine iteF ⟨_, rfl, _, rfl, rfl, _, rfl, ?_⟩
        refine ite2 (fun h1 => ?_) (fun h1 => ?_)
        · have h1 : V.str u = V.str z := of_decide_eq_true h1
          rw [decide_eq_true h1.symm] at k
          exact k
        · have h1 : ¬ V.str z = V.str u := fun e => h1 (decide_eq_true e.symm)
          rw [decide_eq_false h1] at k
          exact k
theorem scNumF : FnScope ["clock", "number"] ["clock", "number"] (defScope sNumberFault) := ⟨rfl, rfl, rfl, by decide +kernel, rfl, by decide +kernel, by decide +kernel⟩
theorem ok_numf {f : Addr} {fd : FuncData} (F : Fun K "_number_fault" "_number_fault" sNumberFault f fd) (m : mg "_number_fault" = some (.ref f)) (N : Ns8 K mg) (Lb : HasF P w K mg base "is_label" 1 ["thing"] spLabel) (W : HasF P w K mg base "is_whole" 1 ["thing", "low", "high"] spWhole) : HasF P w K mg base "_number_fault" 2 ["clock", "number"] spNF := by
  refine ⟨f, fd, ?_, m, F.kp, F.binds fun _ _ _ _ _ _ us hl => by obtain ⟨_, _, rfl⟩ := us2 hl; exact rfl⟩
  obtain ⟨f1, fd1, Lb⟩ := Lb; obtain ⟨f2, fd2, W⟩ := W
  obtain ⟨t2, mA⟩ := N.2.1
  refine F.ok scNumF (fun vs H Q E h => ?_) (fun cdv A outer s H vs Q E hr h => ?_)
  · obtain ⟨a, b, c, d, rfl, _⟩ := h
    rfl
  · obtain ⟨x, y, n, m, rfl, tx, ty, k⟩ := h
    have hr1 : Room 1 _ := hr.mono (by decide)
    refine ⟨_, (pss_cons (ps_if (pt_not (pt_val (pe_call Lb.G hr1 (by rfl) Lb.m Lb.kp Lb.b .nil pass0 (pa_cons (pv 0) pa_nil)))) (pss_one (ps_ret pe_str)) pss_nil)
    (pss_cons (ps_if (pt_not (pt_val (pe_call W.G hr1 (by rfl) W.m W.kp W.b .nil pass0 (pa_cons (pv 1) (pa_cons pe_int (pa_cons (pe_glob (v := .int 40) rfl mA ⟨_, rfl⟩) pa_nil)))))) (pss_one (ps_ret pe_str)) pss_nil)
    (pss_one (ps_ret pe_non)))), ?_⟩
    refine ⟨_, rfl, x, n, rfl, tx.kd, tx.short, _, rfl, ?_⟩
    unfold numW at k
    cases e : labV x with
    | false => rw [e, if_neg Bool.false_ne_true] at k; exact iteT k
    | true =>
      rw [e, if_pos rfl] at k
      refine iteF ⟨_, rfl, y, m, 1, 40, rfl, ty.kd, _, rfl, ?_⟩
      cases e2 : wholeV y 1 40 with
      | false => rw [e2] at k; exact iteT k
      | true => rw [e2] at k; exact iteF k
end
end Kx

set_option maxHeartbeats 4000000
namespace Kx
open PySem L2
section
variable {P : Program} {w : World} {K : PySem.W.Frag} {mg : Str → Option Value} {base : Heap}

theorem whole_of {s : Sh} {args : List V} (h : args.length = s.names.length) : match s with
    | .r => ∃ x, args = [x] | .k => ∃ x, args = [x] | .n => args = [] | .s => ∃ x y, args = [x, y] | .c => ∃ x y, args = [x, y] := by
  cases s with
  | r => rcases args with _ | ⟨x, _ | ⟨y, r⟩⟩ <;> first | exact ⟨_, rfl⟩ | cases h
  | k => rcases args with _ | ⟨x, _ | ⟨y, r⟩⟩ <;> first | exact ⟨_, rfl⟩ | cases h
  | n => rcases args with _ | ⟨x, r⟩ <;> first | rfl | cases h
  | s => rcases args with _ | ⟨x, _ | ⟨y, _ | ⟨z, r⟩⟩⟩ <;> first | exact ⟨_, _, rfl⟩ | cases h
  | c => rcases args with _ | ⟨x, _ | ⟨y, _ | ⟨z, r⟩⟩⟩ <;> first | exact ⟨_, _, rfl⟩ | cases h

theorem sc_iroom : FnScope ["self", "room"] ["self", "room"] (defScope sInRoom_init) := ⟨rfl, rfl, rfl, by decide +kernel, rfl, by decide +kernel, by decide +kernel⟩
theorem ok_iroom {f C CB fB : Addr} {fd fdB : FuncData} (F : Fun K "__init__" "InRoom.__init__" sInRoom_init f fd) (QX : QC K C ["room"]) (Lb : HasF P w K mg base "is_label" 1 ["thing"] spLabel) (EB : ErC P w K mg base "BadCondition" ["self", "what"] CB fB fdB (spInit1 K CB "what")) (n1 : PySem.W.findIn K (.ref CB) "what" = some none) :
    FnOk P w K mg base (L2.CX P w) 4 f fd ["self", "room"] (spI .r C CB) := by
  obtain ⟨f1, fd1, Lb⟩ := Lb
  refine F.okX sc_iroom (fun vs H Q E h => ?_) (fun cdv A outer s H vs Q E hr h => ?_)
  · obtain ⟨p, dx, args, rfl, hl, _⟩ := h
    obtain ⟨x, rfl⟩ := whole_of (s := .r) hl
    rfl
  · obtain ⟨p, dx, args, rfl, hl, hp, ta, k⟩ := h
    obtain ⟨x, rfl⟩ := whole_of (s := .r) hl
    obtain ⟨n, tx⟩ := ta x (.head _)
    have hr1 : Room 1 _ := hr.mono (by decide)
    have hr2 : Room 2 _ := hr.mono (by decide)
    refine ⟨_, (pss_cons (ps_if (pt_not (pt_val (pe_call Lb.G hr1 (by rfl) Lb.m Lb.kp Lb.b .nil pass0 (pa_cons (pv 1) pa_nil)))) (pss_one (ps_raise rfl (takes_of rfl rfl rfl rfl) (pmk_oex EB.T EB.iC EB.tI EB.G hr2 EB.b .nil pass0 (by rfl) EB.gC (pa_cons pe_str pa_nil)))) pss_nil)
    (pss_one (ps_fld (pv 0) (pv 1) rfl))), ?_⟩
    refine ⟨_, rfl, x, n, rfl, tx.kd, tx.short, _, rfl, ?_⟩
    have ew : Sh.pw .r [x] = if labV x then none else some (Str.ofString "room") := rfl
    cases e : labV x with
    | false =>
      rw [ew, e, if_neg Bool.false_ne_true] at k
      exact iteT (fin1 EB.T n1 fun d H2 hd s2 e2 => k d H2 hd (Same.keep s2) e2)
    | true =>
      rw [ew, e, if_pos rfl] at k
      refine iteF ⟨_, rfl, _, rfl, p, C, dx, [], rfl, hp, QX.cl, QX.no _ (.head _), (by show 0 < 1000; decide), ?_⟩
      exact k _ (Keep.upd Keep.refl) upd_same
theorem sc_inotroom : FnScope ["self", "room"] ["self", "room"] (defScope sNotInRoom_init) := ⟨rfl, rfl, rfl, by decide +kernel, rfl, by decide +kernel, by decide +kernel⟩
theorem ok_inotroom {f C CB fB : Addr} {fd fdB : FuncData} (F : Fun K "__init__" "NotInRoom.__init__" sNotInRoom_init f fd) (QX : QC K C ["room"]) (Lb : HasF P w K mg base "is_label" 1 ["thing"] spLabel) (EB : ErC P w K mg base "BadCondition" ["self", "what"] CB fB fdB (spInit1 K CB "what")) (n1 : PySem.W.findIn K (.ref CB) "what" = some none) :
    FnOk P w K mg base (L2.CX P w) 4 f fd ["self", "room"] (spI .r C CB) := by
  obtain ⟨f1, fd1, Lb⟩ := Lb
  refine F.okX sc_inotroom (fun vs H Q E h => ?_) (fun cdv A outer s H vs Q E hr h => ?_)
  · obtain ⟨p, dx, args, rfl, hl, _⟩ := h
    obtain ⟨x, rfl⟩ := whole_of (s := .r) hl
    rfl
  · obtain ⟨p, dx, args, rfl, hl, hp, ta, k⟩ := h
    obtain ⟨x, rfl⟩ := whole_of (s := .r) hl
    obtain ⟨n, tx⟩ := ta x (.head _)
    have hr1 : Room 1 _ := hr.mono (by decide)
    have hr2 : Room 2 _ := hr.mono (by decide)
    refine ⟨_, (pss_cons (ps_if (pt_not (pt_val (pe_call Lb.G hr1 (by rfl) Lb.m Lb.kp Lb.b .nil pass0 (pa_cons (pv 1) pa_nil)))) (pss_one (ps_raise rfl (takes_of rfl rfl rfl rfl) (pmk_oex EB.T EB.iC EB.tI EB.G hr2 EB.b .nil pass0 (by rfl) EB.gC (pa_cons pe_str pa_nil)))) pss_nil)
    (pss_one (ps_fld (pv 0) (pv 1) rfl))), ?_⟩
    refine ⟨_, rfl, x, n, rfl, tx.kd, tx.short, _, rfl, ?_⟩
    have ew : Sh.pw .r [x] = if labV x then none else some (Str.ofString "room") := rfl
    cases e : labV x with
    | false =>
      rw [ew, e, if_neg Bool.false_ne_true] at k
      exact iteT (fin1 EB.T n1 fun d H2 hd s2 e2 => k d H2 hd (Same.keep s2) e2)
    | true =>
      rw [ew, e, if_pos rfl] at k
      refine iteF ⟨_, rfl, _, rfl, p, C, dx, [], rfl, hp, QX.cl, QX.no _ (.head _), (by show 0 < 1000; decide), ?_⟩
      exact k _ (Keep.upd Keep.refl) upd_same
theorem sc_iis_ : FnScope ["self", "seat", "what", "word"] ["self", "seat", "what"] (defScope sIs_init) := ⟨rfl, rfl, rfl, by decide +kernel, rfl, by decide +kernel, by decide +kernel⟩
theorem ok_iis_ {f C CB fB : Addr} {fd fdB : FuncData} (F : Fun K "__init__" "Is.__init__" sIs_init f fd) (QX : QC K C ["seat", "what"]) (Ft : HasF P w K mg base "_seat_fault" 3 ["seat", "what"] spSF) (EB : ErC P w K mg base "BadCondition" ["self", "what"] CB fB fdB (spInit1 K CB "what")) (n1 : PySem.W.findIn K (.ref CB) "what" = some none) :
    FnOk P w K mg base (L2.CX P w) 4 f fd ["self", "seat", "what"] (spI .s C CB) := by
  obtain ⟨f1, fd1, Ft⟩ := Ft
  refine F.okX sc_iis_ (fun vs H Q E h => ?_) (fun cdv A outer s H vs Q E hr h => ?_)
  · obtain ⟨p, dx, args, rfl, hl, _⟩ := h
    obtain ⟨x, y, rfl⟩ := whole_of (s := .s) hl
    rfl
  · obtain ⟨p, dx, args, rfl, hl, hp, ta, k⟩ := h
    obtain ⟨x, y, rfl⟩ := whole_of (s := .s) hl
    obtain ⟨n, tx⟩ := ta x (.head _)
    obtain ⟨m, ty⟩ := ta y (.tail _ (.head _))
    have hr1 : Room 1 _ := hr.mono (by decide)
    have hr2 : Room 2 _ := hr.mono (by decide)
    have hr3 : Room 3 _ := hr.mono (by decide)
    refine ⟨_, (pss_cons (ps_set (i := 3) sc_iis_.nd rfl (Or.inl rfl) (pe_call Ft.G hr3 (by rfl) Ft.m Ft.kp Ft.b .nil pass0 (pa_cons (pv 1) (pa_cons (pv 2) pa_nil))))
    (pss_cons (ps_if (pt_cmpR op_notN (pv 3) pe_non (nomark _)) (pss_one (ps_raise rfl (takes_of rfl rfl rfl rfl) (pmk_oex EB.T EB.iC EB.tI EB.G hr2 EB.b .nil pass0 (by rfl) EB.gC (pa_cons (pv 3) pa_nil)))) pss_nil)
    (pss_cons (ps_fld (pv 0) (pv 1) rfl)
    (pss_one (ps_fld (pv 0) (pv 2) rfl))))), ?_⟩
    have ew : Sh.pw .s [x, y] = seatW x y := rfl
    rw [ew] at k
    refine ⟨_, rfl, _, rfl, x, y, n, m, rfl, tx, ty, ?_⟩
    cases e : seatW x y with
    | some wd =>
      rw [e] at k
      refine ⟨_, rfl, rfl, _, rfl, iteT ⟨_, rfl, ?_⟩⟩
      exact fin1 EB.T n1 fun d H2 hd s2 e2 => k d H2 hd (Same.keep s2) e2
    | none =>
      rw [e] at k
      refine ⟨_, rfl, rfl, _, rfl, iteF ?_⟩
      refine ⟨_, rfl, _, rfl, p, C, dx, [], rfl, hp, QX.cl, QX.no _ (.head _), (by show 0 < 1000; decide), ?_⟩
      refine ⟨_, rfl, _, rfl, p, C, dx, _, rfl, upd_same, QX.cl, QX.no _ (.tail _ (.head _)), (by show 1 < 1000; decide), ?_⟩
      exact k _ (Keep.upd (Keep.upd Keep.refl)) upd_same
theorem sc_iisnot : FnScope ["self", "seat", "what", "word"] ["self", "seat", "what"] (defScope sIsNot_init) := ⟨rfl, rfl, rfl, by decide +kernel, rfl, by decide +kernel, by decide +kernel⟩
theorem ok_iisnot {f C CB fB : Addr} {fd fdB : FuncData} (F : Fun K "__init__" "IsNot.__init__" sIsNot_init f fd) (QX : QC K C ["seat", "what"]) (Ft : HasF P w K mg base "_seat_fault" 3 ["seat", "what"] spSF) (EB : ErC P w K mg base "BadCondition" ["self", "what"] CB fB fdB (spInit1 K CB "what")) (n1 : PySem.W.findIn K (.ref CB) "what" = some none) :
    FnOk P w K mg base (L2.CX P w) 4 f fd ["self", "seat", "what"] (spI .s C CB) := by
  obtain ⟨f1, fd1, Ft⟩ := Ft
  refine F.okX sc_iisnot (fun vs H Q E h => ?_) (fun cdv A outer s H vs Q E hr h => ?_)
  · obtain ⟨p, dx, args, rfl, hl, _⟩ := h
    obtain ⟨x, y, rfl⟩ := whole_of (s := .s) hl
    rfl
  · obtain ⟨p, dx, args, rfl, hl, hp, ta, k⟩ := h
    obtain ⟨x, y, rfl⟩ := whole_of (s := .s) hl
    obtain ⟨n, tx⟩ := ta x (.head _)
    obtain ⟨m, ty⟩ := ta y (.tail _ (.head _))
    have hr1 : Room 1 _ := hr.mono (by decide)
    have hr2 : Room 2 _ := hr.mono (by decide)
    have hr3 : Room 3 _ := hr.mono (by decide)
    refine ⟨_, (pss_cons (ps_set (i := 3) sc_iisnot.nd rfl (Or.inl rfl) (pe_call Ft.G hr3 (by rfl) Ft.m Ft.kp Ft.b .nil pass0 (pa_cons (pv 1) (pa_cons (pv 2) pa_nil))))
    (pss_cons (ps_if (pt_cmpR op_notN (pv 3) pe_non (nomark _)) (pss_one (ps_raise rfl (takes_of rfl rfl rfl rfl) (pmk_oex EB.T EB.iC EB.tI EB.G hr2 EB.b .nil pass0 (by rfl) EB.gC (pa_cons (pv 3) pa_nil)))) pss_nil)
    (pss_cons (ps_fld (pv 0) (pv 1) rfl)
    (pss_one (ps_fld (pv 0) (pv 2) rfl))))), ?_⟩
    have ew : Sh.pw .s [x, y] = seatW x y := rfl
    rw [ew] at k
    refine ⟨_, rfl, _, rfl, x, y, n, m, rfl, tx, ty, ?_⟩
    cases e : seatW x y with
    | some wd =>
      rw [e] at k
      refine ⟨_, rfl, rfl, _, rfl, iteT ⟨_, rfl, ?_⟩⟩
      exact fin1 EB.T n1 fun d H2 hd s2 e2 => k d H2 hd (Same.keep s2) e2
    | none =>
      rw [e] at k
      refine ⟨_, rfl, rfl, _, rfl, iteF ?_⟩
      refine ⟨_, rfl, _, rfl, p, C, dx, [], rfl, hp, QX.cl, QX.no _ (.head _), (by show 0 < 1000; decide), ?_⟩
      refine ⟨_, rfl, _, rfl, p, C, dx, _, rfl, upd_same, QX.cl, QX.no _ (.tail _ (.head _)), (by show 1 < 1000; decide), ?_⟩
      exact k _ (Keep.upd (Keep.upd Keep.refl)) upd_same
theorem sc_ileast : FnScope ["self", "clock", "number", "word"] ["self", "clock", "number"] (defScope sAtLeast_init) := ⟨rfl, rfl, rfl, by decide +kernel, rfl, by decide +kernel, by decide +kernel⟩
theorem ok_ileast {f C CB fB : Addr} {fd fdB : FuncData} (F : Fun K "__init__" "AtLeast.__init__" sAtLeast_init f fd) (QX : QC K C ["clock", "number"]) (Ft : HasF P w K mg base "_number_fault" 2 ["clock", "number"] spNF) (EB : ErC P w K mg base "BadCondition" ["self", "what"] CB fB fdB (spInit1 K CB "what")) (n1 : PySem.W.findIn K (.ref CB) "what" = some none) :
    FnOk P w K mg base (L2.CX P w) 4 f fd ["self", "clock", "number"] (spI .c C CB) := by
  obtain ⟨f1, fd1, Ft⟩ := Ft
  refine F.okX sc_ileast (fun vs H Q E h => ?_) (fun cdv A outer s H vs Q E hr h => ?_)
  · obtain ⟨p, dx, args, rfl, hl, _⟩ := h
    obtain ⟨x, y, rfl⟩ := whole_of (s := .c) hl
    rfl
  · obtain ⟨p, dx, args, rfl, hl, hp, ta, k⟩ := h
    obtain ⟨x, y, rfl⟩ := whole_of (s := .c) hl
    obtain ⟨n, tx⟩ := ta x (.head _)
    obtain ⟨m, ty⟩ := ta y (.tail _ (.head _))
    have hr1 : Room 1 _ := hr.mono (by decide)
    have hr2 : Room 2 _ := hr.mono (by decide)
    have hr3 : Room 2 _ := hr.mono (by decide)
    refine ⟨_, (pss_cons (ps_set (i := 3) sc_ileast.nd rfl (Or.inl rfl) (pe_call Ft.G hr3 (by rfl) Ft.m Ft.kp Ft.b .nil pass0 (pa_cons (pv 1) (pa_cons (pv 2) pa_nil))))
    (pss_cons (ps_if (pt_cmpR op_notN (pv 3) pe_non (nomark _)) (pss_one (ps_raise rfl (takes_of rfl rfl rfl rfl) (pmk_oex EB.T EB.iC EB.tI EB.G hr2 EB.b .nil pass0 (by rfl) EB.gC (pa_cons (pv 3) pa_nil)))) pss_nil)
    (pss_cons (ps_fld (pv 0) (pv 1) rfl)
    (pss_one (ps_fld (pv 0) (pv 2) rfl))))), ?_⟩
    have ew : Sh.pw .c [x, y] = numW x y := rfl
    rw [ew] at k
    refine ⟨_, rfl, _, rfl, x, y, n, m, rfl, tx, ty, ?_⟩
    cases e : numW x y with
    | some wd =>
      rw [e] at k
      refine ⟨_, rfl, rfl, _, rfl, iteT ⟨_, rfl, ?_⟩⟩
      exact fin1 EB.T n1 fun d H2 hd s2 e2 => k d H2 hd (Same.keep s2) e2
    | none =>
      rw [e] at k
      refine ⟨_, rfl, rfl, _, rfl, iteF ?_⟩
      refine ⟨_, rfl, _, rfl, p, C, dx, [], rfl, hp, QX.cl, QX.no _ (.head _), (by show 0 < 1000; decide), ?_⟩
      refine ⟨_, rfl, _, rfl, p, C, dx, _, rfl, upd_same, QX.cl, QX.no _ (.tail _ (.head _)), (by show 1 < 1000; decide), ?_⟩
      exact k _ (Keep.upd (Keep.upd Keep.refl)) upd_same
theorem sc_ibelow : FnScope ["self", "clock", "number", "word"] ["self", "clock", "number"] (defScope sBelow_init) := ⟨rfl, rfl, rfl, by decide +kernel, rfl, by decide +kernel, by decide +kernel⟩
theorem ok_ibelow {f C CB fB : Addr} {fd fdB : FuncData} (F : Fun K "__init__" "Below.__init__" sBelow_init f fd) (QX : QC K C ["clock", "number"]) (Ft : HasF P w K mg base "_number_fault" 2 ["clock", "number"] spNF) (EB : ErC P w K mg base "BadCondition" ["self", "what"] CB fB fdB (spInit1 K CB "what")) (n1 : PySem.W.findIn K (.ref CB) "what" = some none) :
    FnOk P w K mg base (L2.CX P w) 4 f fd ["self", "clock", "number"] (spI .c C CB) := by
  obtain ⟨f1, fd1, Ft⟩ := Ft
  refine F.okX sc_ibelow (fun vs H Q E h => ?_) (fun cdv A outer s H vs Q E hr h => ?_)
  · obtain ⟨p, dx, args, rfl, hl, _⟩ := h
    obtain ⟨x, y, rfl⟩ := whole_of (s := .c) hl
    rfl
  · obtain ⟨p, dx, args, rfl, hl, hp, ta, k⟩ := h
    obtain ⟨x, y, rfl⟩ := whole_of (s := .c) hl
    obtain ⟨n, tx⟩ := ta x (.head _)
    obtain ⟨m, ty⟩ := ta y (.tail _ (.head _))
    have hr1 : Room 1 _ := hr.mono (by decide)
    have hr2 : Room 2 _ := hr.mono (by decide)
    have hr3 : Room 2 _ := hr.mono (by decide)
    refine ⟨_, (pss_cons (ps_set (i := 3) sc_ibelow.nd rfl (Or.inl rfl) (pe_call Ft.G hr3 (by rfl) Ft.m Ft.kp Ft.b .nil pass0 (pa_cons (pv 1) (pa_cons (pv 2) pa_nil))))
    (pss_cons (ps_if (pt_cmpR op_notN (pv 3) pe_non (nomark _)) (pss_one (ps_raise rfl (takes_of rfl rfl rfl rfl) (pmk_oex EB.T EB.iC EB.tI EB.G hr2 EB.b .nil pass0 (by rfl) EB.gC (pa_cons (pv 3) pa_nil)))) pss_nil)
    (pss_cons (ps_fld (pv 0) (pv 1) rfl)
    (pss_one (ps_fld (pv 0) (pv 2) rfl))))), ?_⟩
    have ew : Sh.pw .c [x, y] = numW x y := rfl
    rw [ew] at k
    refine ⟨_, rfl, _, rfl, x, y, n, m, rfl, tx, ty, ?_⟩
    cases e : numW x y with
    | some wd =>
      rw [e] at k
      refine ⟨_, rfl, rfl, _, rfl, iteT ⟨_, rfl, ?_⟩⟩
      exact fin1 EB.T n1 fun d H2 hd s2 e2 => k d H2 hd (Same.keep s2) e2
    | none =>
      rw [e] at k
      refine ⟨_, rfl, rfl, _, rfl, iteF ?_⟩
      refine ⟨_, rfl, _, rfl, p, C, dx, [], rfl, hp, QX.cl, QX.no _ (.head _), (by show 0 < 1000; decide), ?_⟩
      refine ⟨_, rfl, _, rfl, p, C, dx, _, rfl, upd_same, QX.cl, QX.no _ (.tail _ (.head _)), (by show 1 < 1000; decide), ?_⟩
      exact k _ (Keep.upd (Keep.upd Keep.refl)) upd_same
theorem sc_ito : FnScope ["self", "room"] ["self", "room"] (defScope sToRoom_init) := ⟨rfl, rfl, rfl, by decide +kernel, rfl, by decide +kernel, by decide +kernel⟩
theorem ok_ito {f C CB fB : Addr} {fd fdB : FuncData} (F : Fun K "__init__" "ToRoom.__init__" sToRoom_init f fd) (QX : QC K C ["room"]) (Lb : HasF P w K mg base "is_label" 1 ["thing"] spLabel) (EB : ErC P w K mg base "BadChange" ["self", "what"] CB fB fdB (spInit1 K CB "what")) (n1 : PySem.W.findIn K (.ref CB) "what" = some none) :
    FnOk P w K mg base (L2.CX P w) 4 f fd ["self", "room"] (spI .r C CB) := by
  obtain ⟨f1, fd1, Lb⟩ := Lb
  refine F.okX sc_ito (fun vs H Q E h => ?_) (fun cdv A outer s H vs Q E hr h => ?_)
  · obtain ⟨p, dx, args, rfl, hl, _⟩ := h
    obtain ⟨x, rfl⟩ := whole_of (s := .r) hl
    rfl
  · obtain ⟨p, dx, args, rfl, hl, hp, ta, k⟩ := h
    obtain ⟨x, rfl⟩ := whole_of (s := .r) hl
    obtain ⟨n, tx⟩ := ta x (.head _)
    have hr1 : Room 1 _ := hr.mono (by decide)
    have hr2 : Room 2 _ := hr.mono (by decide)
    refine ⟨_, (pss_cons (ps_if (pt_not (pt_val (pe_call Lb.G hr1 (by rfl) Lb.m Lb.kp Lb.b .nil pass0 (pa_cons (pv 1) pa_nil)))) (pss_one (ps_raise rfl (takes_of rfl rfl rfl rfl) (pmk_oex EB.T EB.iC EB.tI EB.G hr2 EB.b .nil pass0 (by rfl) EB.gC (pa_cons pe_str pa_nil)))) pss_nil)
    (pss_one (ps_fld (pv 0) (pv 1) rfl))), ?_⟩
    refine ⟨_, rfl, x, n, rfl, tx.kd, tx.short, _, rfl, ?_⟩
    have ew : Sh.pw .r [x] = if labV x then none else some (Str.ofString "room") := rfl
    cases e : labV x with
    | false =>
      rw [ew, e, if_neg Bool.false_ne_true] at k
      exact iteT (fin1 EB.T n1 fun d H2 hd s2 e2 => k d H2 hd (Same.keep s2) e2)
    | true =>
      rw [ew, e, if_pos rfl] at k
      refine iteF ⟨_, rfl, _, rfl, p, C, dx, [], rfl, hp, QX.cl, QX.no _ (.head _), (by show 0 < 1000; decide), ?_⟩
      exact k _ (Keep.upd Keep.refl) upd_same
theorem sc_iput : FnScope ["self", "seat", "what", "word"] ["self", "seat", "what"] (defScope sPut_init) := ⟨rfl, rfl, rfl, by decide +kernel, rfl, by decide +kernel, by decide +kernel⟩
theorem ok_iput {f C CB fB : Addr} {fd fdB : FuncData} (F : Fun K "__init__" "Put.__init__" sPut_init f fd) (QX : QC K C ["seat", "what"]) (Ft : HasF P w K mg base "_seat_fault" 3 ["seat", "what"] spSF) (EB : ErC P w K mg base "BadChange" ["self", "what"] CB fB fdB (spInit1 K CB "what")) (n1 : PySem.W.findIn K (.ref CB) "what" = some none) :
    FnOk P w K mg base (L2.CX P w) 4 f fd ["self", "seat", "what"] (spI .s C CB) := by
  obtain ⟨f1, fd1, Ft⟩ := Ft
  refine F.okX sc_iput (fun vs H Q E h => ?_) (fun cdv A outer s H vs Q E hr h => ?_)
  · obtain ⟨p, dx, args, rfl, hl, _⟩ := h
    obtain ⟨x, y, rfl⟩ := whole_of (s := .s) hl
    rfl
  · obtain ⟨p, dx, args, rfl, hl, hp, ta, k⟩ := h
    obtain ⟨x, y, rfl⟩ := whole_of (s := .s) hl
    obtain ⟨n, tx⟩ := ta x (.head _)
    obtain ⟨m, ty⟩ := ta y (.tail _ (.head _))
    have hr1 : Room 1 _ := hr.mono (by decide)
    have hr2 : Room 2 _ := hr.mono (by decide)
    have hr3 : Room 3 _ := hr.mono (by decide)
    refine ⟨_, (pss_cons (ps_set (i := 3) sc_iput.nd rfl (Or.inl rfl) (pe_call Ft.G hr3 (by rfl) Ft.m Ft.kp Ft.b .nil pass0 (pa_cons (pv 1) (pa_cons (pv 2) pa_nil))))
    (pss_cons (ps_if (pt_cmpR op_notN (pv 3) pe_non (nomark _)) (pss_one (ps_raise rfl (takes_of rfl rfl rfl rfl) (pmk_oex EB.T EB.iC EB.tI EB.G hr2 EB.b .nil pass0 (by rfl) EB.gC (pa_cons (pv 3) pa_nil)))) pss_nil)
    (pss_cons (ps_fld (pv 0) (pv 1) rfl)
    (pss_one (ps_fld (pv 0) (pv 2) rfl))))), ?_⟩
    have ew : Sh.pw .s [x, y] = seatW x y := rfl
    rw [ew] at k
    refine ⟨_, rfl, _, rfl, x, y, n, m, rfl, tx, ty, ?_⟩
    cases e : seatW x y with
    | some wd =>
      rw [e] at k
      refine ⟨_, rfl, rfl, _, rfl, iteT ⟨_, rfl, ?_⟩⟩
      exact fin1 EB.T n1 fun d H2 hd s2 e2 => k d H2 hd (Same.keep s2) e2
    | none =>
      rw [e] at k
      refine ⟨_, rfl, rfl, _, rfl, iteF ?_⟩
      refine ⟨_, rfl, _, rfl, p, C, dx, [], rfl, hp, QX.cl, QX.no _ (.head _), (by show 0 < 1000; decide), ?_⟩
      refine ⟨_, rfl, _, rfl, p, C, dx, _, rfl, upd_same, QX.cl, QX.no _ (.tail _ (.head _)), (by show 1 < 1000; decide), ?_⟩
      exact k _ (Keep.upd (Keep.upd Keep.refl)) upd_same
theorem sc_izero : FnScope ["self", "clock"] ["self", "clock"] (defScope sZero_init) := ⟨rfl, rfl, rfl, by decide +kernel, rfl, by decide +kernel, by decide +kernel⟩
theorem ok_izero {f C CB fB : Addr} {fd fdB : FuncData} (F : Fun K "__init__" "Zero.__init__" sZero_init f fd) (QX : QC K C ["clock"]) (Lb : HasF P w K mg base "is_label" 1 ["thing"] spLabel) (EB : ErC P w K mg base "BadChange" ["self", "what"] CB fB fdB (spInit1 K CB "what")) (n1 : PySem.W.findIn K (.ref CB) "what" = some none) :
    FnOk P w K mg base (L2.CX P w) 4 f fd ["self", "clock"] (spI .k C CB) := by
  obtain ⟨f1, fd1, Lb⟩ := Lb
  refine F.okX sc_izero (fun vs H Q E h => ?_) (fun cdv A outer s H vs Q E hr h => ?_)
  · obtain ⟨p, dx, args, rfl, hl, _⟩ := h
    obtain ⟨x, rfl⟩ := whole_of (s := .k) hl
    rfl
  · obtain ⟨p, dx, args, rfl, hl, hp, ta, k⟩ := h
    obtain ⟨x, rfl⟩ := whole_of (s := .k) hl
    obtain ⟨n, tx⟩ := ta x (.head _)
    have hr1 : Room 1 _ := hr.mono (by decide)
    have hr2 : Room 2 _ := hr.mono (by decide)
    refine ⟨_, (pss_cons (ps_if (pt_not (pt_val (pe_call Lb.G hr1 (by rfl) Lb.m Lb.kp Lb.b .nil pass0 (pa_cons (pv 1) pa_nil)))) (pss_one (ps_raise rfl (takes_of rfl rfl rfl rfl) (pmk_oex EB.T EB.iC EB.tI EB.G hr2 EB.b .nil pass0 (by rfl) EB.gC (pa_cons pe_str pa_nil)))) pss_nil)
    (pss_one (ps_fld (pv 0) (pv 1) rfl))), ?_⟩
    refine ⟨_, rfl, x, n, rfl, tx.kd, tx.short, _, rfl, ?_⟩
    have ew : Sh.pw .k [x] = if labV x then none else some (Str.ofString "clock") := rfl
    cases e : labV x with
    | false =>
      rw [ew, e, if_neg Bool.false_ne_true] at k
      exact iteT (fin1 EB.T n1 fun d H2 hd s2 e2 => k d H2 hd (Same.keep s2) e2)
    | true =>
      rw [ew, e, if_pos rfl] at k
      refine iteF ⟨_, rfl, _, rfl, p, C, dx, [], rfl, hp, QX.cl, QX.no _ (.head _), (by show 0 < 1000; decide), ?_⟩
      exact k _ (Keep.upd Keep.refl) upd_same
theorem sc_irun : FnScope ["self", "clock"] ["self", "clock"] (defScope sRun_init) := ⟨rfl, rfl, rfl, by decide +kernel, rfl, by decide +kernel, by decide +kernel⟩
theorem ok_irun {f C CB fB : Addr} {fd fdB : FuncData} (F : Fun K "__init__" "Run.__init__" sRun_init f fd) (QX : QC K C ["clock"]) (Lb : HasF P w K mg base "is_label" 1 ["thing"] spLabel) (EB : ErC P w K mg base "BadChange" ["self", "what"] CB fB fdB (spInit1 K CB "what")) (n1 : PySem.W.findIn K (.ref CB) "what" = some none) :
    FnOk P w K mg base (L2.CX P w) 4 f fd ["self", "clock"] (spI .k C CB) := by
  obtain ⟨f1, fd1, Lb⟩ := Lb
  refine F.okX sc_irun (fun vs H Q E h => ?_) (fun cdv A outer s H vs Q E hr h => ?_)
  · obtain ⟨p, dx, args, rfl, hl, _⟩ := h
    obtain ⟨x, rfl⟩ := whole_of (s := .k) hl
    rfl
  · obtain ⟨p, dx, args, rfl, hl, hp, ta, k⟩ := h
    obtain ⟨x, rfl⟩ := whole_of (s := .k) hl
    obtain ⟨n, tx⟩ := ta x (.head _)
    have hr1 : Room 1 _ := hr.mono (by decide)
    have hr2 : Room 2 _ := hr.mono (by decide)
    refine ⟨_, (pss_cons (ps_if (pt_not (pt_val (pe_call Lb.G hr1 (by rfl) Lb.m Lb.kp Lb.b .nil pass0 (pa_cons (pv 1) pa_nil)))) (pss_one (ps_raise rfl (takes_of rfl rfl rfl rfl) (pmk_oex EB.T EB.iC EB.tI EB.G hr2 EB.b .nil pass0 (by rfl) EB.gC (pa_cons pe_str pa_nil)))) pss_nil)
    (pss_one (ps_fld (pv 0) (pv 1) rfl))), ?_⟩
    refine ⟨_, rfl, x, n, rfl, tx.kd, tx.short, _, rfl, ?_⟩
    have ew : Sh.pw .k [x] = if labV x then none else some (Str.ofString "clock") := rfl
    cases e : labV x with
    | false =>
      rw [ew, e, if_neg Bool.false_ne_true] at k
      exact iteT (fin1 EB.T n1 fun d H2 hd s2 e2 => k d H2 hd (Same.keep s2) e2)
    | true =>
      rw [ew, e, if_pos rfl] at k
      refine iteF ⟨_, rfl, _, rfl, p, C, dx, [], rfl, hp, QX.cl, QX.no _ (.head _), (by show 0 < 1000; decide), ?_⟩
      exact k _ (Keep.upd Keep.refl) upd_same
theorem sc_ihalt : FnScope ["self", "clock"] ["self", "clock"] (defScope sHalt_init) := ⟨rfl, rfl, rfl, by decide +kernel, rfl, by decide +kernel, by decide +kernel⟩
theorem ok_ihalt {f C CB fB : Addr} {fd fdB : FuncData} (F : Fun K "__init__" "Halt.__init__" sHalt_init f fd) (QX : QC K C ["clock"]) (Lb : HasF P w K mg base "is_label" 1 ["thing"] spLabel) (EB : ErC P w K mg base "BadChange" ["self", "what"] CB fB fdB (spInit1 K CB "what")) (n1 : PySem.W.findIn K (.ref CB) "what" = some none) :
    FnOk P w K mg base (L2.CX P w) 4 f fd ["self", "clock"] (spI .k C CB) := by
  obtain ⟨f1, fd1, Lb⟩ := Lb
  refine F.okX sc_ihalt (fun vs H Q E h => ?_) (fun cdv A outer s H vs Q E hr h => ?_)
  · obtain ⟨p, dx, args, rfl, hl, _⟩ := h
    obtain ⟨x, rfl⟩ := whole_of (s := .k) hl
    rfl
  · obtain ⟨p, dx, args, rfl, hl, hp, ta, k⟩ := h
    obtain ⟨x, rfl⟩ := whole_of (s := .k) hl
    obtain ⟨n, tx⟩ := ta x (.head _)
    have hr1 : Room 1 _ := hr.mono (by decide)
    have hr2 : Room 2 _ := hr.mono (by decide)
    refine ⟨_, (pss_cons (ps_if (pt_not (pt_val (pe_call Lb.G hr1 (by rfl) Lb.m Lb.kp Lb.b .nil pass0 (pa_cons (pv 1) pa_nil)))) (pss_one (ps_raise rfl (takes_of rfl rfl rfl rfl) (pmk_oex EB.T EB.iC EB.tI EB.G hr2 EB.b .nil pass0 (by rfl) EB.gC (pa_cons pe_str pa_nil)))) pss_nil)
    (pss_one (ps_fld (pv 0) (pv 1) rfl))), ?_⟩
    refine ⟨_, rfl, x, n, rfl, tx.kd, tx.short, _, rfl, ?_⟩
    have ew : Sh.pw .k [x] = if labV x then none else some (Str.ofString "clock") := rfl
    cases e : labV x with
    | false =>
      rw [ew, e, if_neg Bool.false_ne_true] at k
      exact iteT (fin1 EB.T n1 fun d H2 hd s2 e2 => k d H2 hd (Same.keep s2) e2)
    | true =>
      rw [ew, e, if_pos rfl] at k
      refine iteF ⟨_, rfl, _, rfl, p, C, dx, [], rfl, hp, QX.cl, QX.no _ (.head _), (by show 0 < 1000; decide), ?_⟩
      exact k _ (Keep.upd Keep.refl) upd_same
end
end Kx

set_option maxHeartbeats 4000000
namespace Kx
open PySem L2
section
variable {P : Program} {w : World} {K : PySem.W.Frag} {mg : Str → Option Value} {base : Heap}

/-- what is known of the thirteen classes -/
structure PkC (K : PySem.W.Frag) (Cs : Pk → Addr) : Prop where
  q : ∀ k, QC K (Cs k) k.names
  isi : ∀ j k, PySem.W.kitOne K (.ref (Cs j)) (.ref (Cs k)) = some (decide (j = k))
  nf : ∀ j k, PySem.W.notFirst K (Cs j) (.ref (Cs k)) = true
  nft : ∀ j, PySem.W.notFirst K (Cs j) (.type "tuple") = true
  ist : ∀ k, PySem.W.kitOne K (.type "tuple") (.ref (Cs k)) = some false
/-- == of a piece: with a piece, or with a tuple -/
def spPEq (Cs : Pk → Addr) (k : Pk) : Sp := fun vs H Q _ => ∃ (a : Addr) (y : V) (args : List V), vs = [.ref a, y] ∧ PcA Cs H a k args ∧
  ((∃ (b : Addr) (k' : Pk) (args' : List V), y = .ref b ∧ PcA Cs H b k' args' ∧ Q (.bl (decide (k = k' ∧ args = args'))) H) ∨ (∃ (b : Addr) (zs : List V), y = .ref b ∧ H b = some (.tup zs) ∧ Q (.bl false) H))
theorem good_scal {x y : V} (h : GoodA x) (h' : GoodA y) : scal x y = true := by
  rcases h with ⟨z, rfl, _⟩ | ⟨i, rfl, _⟩ <;> rcases h' with ⟨u, rfl, _⟩ | ⟨j, rfl, _⟩ <;> rfl
theorem dec_ne {k k' : Pk} {a b : List V} (h : ¬ k = k') : decide (k = k' ∧ a = b) = false := decide_eq_false fun e => h e.1
theorem dec_1 {k : Pk} {x y : V} : decide (k = k ∧ [x] = [y]) = decide (x = y) := by simp
theorem dec_2 {k : Pk} {x y u v : V} : decide (k = k ∧ [x, u] = [y, v]) = (decide (x = y) && decide (u = v)) := by simp
theorem dec_0 {k : Pk} : decide (k = k ∧ ([] : List V) = []) = true := by simp
theorem s_sw : ¬ (Str.ofString "what") = Str.ofString "seat" := by decide +kernel
theorem s_cn : ¬ (Str.ofString "number") = Str.ofString "clock" := by decide +kernel
theorem zip_fst {f : Str} {fs : List Str} {x : V} {xs : List V} : List.lookup f ((f :: fs).zip (x :: xs)) = some x := by
  show List.lookup f ((f, x) :: fs.zip xs) = some x
  simp
theorem zip_snd {f g : Str} {fs : List Str} {x y : V} {xs : List V} (h : ¬ g = f) : List.lookup g ((f :: g :: fs).zip (x :: y :: xs)) = some y := by
  show List.lookup g ((f, x) :: (g, y) :: fs.zip xs) = some y
  have hb : (g == f) = false := beq_eq_false_iff_ne.mpr h
  simp only [List.lookup, hb]
  simp

theorem sc_qroom : FnScope ["self", "other"] ["self", "other"] (defScope sInRoom_eq) := ⟨rfl, rfl, rfl, by decide +kernel, rfl, by decide +kernel, by decide +kernel⟩
theorem ok_qroom {f : Addr} {fd : FuncData} {Cs : Pk → Addr} (F : Fun K "__eq__" "InRoom.__eq__" sInRoom_eq f fd) (B : Bm mg) (PC : PkC K Cs) (mC : mg "InRoom" = some (.ref (Cs .room))) : FnOk P w K mg base CX0 1 f fd ["self", "other"] (spPEq Cs .room) := by
  refine F.ok sc_qroom (fun vs H Q E h => ?_) (fun cdv A outer s H vs Q E hr h => ?_)
  · obtain ⟨a, y, args, rfl, _⟩ := h
    rfl
  · obtain ⟨a, y, args, rfl, ha, h⟩ := h
    obtain ⟨dx, ea⟩ := ha.ob
    refine ⟨_, pss_one (ps_ret (pe_and (pe_callB call_isi (by rfl) B.isinstance (by decide +kernel) (pa_cons (pv 1) (pa_cons (pe_glob (v := .ref (Cs .room)) rfl mC rfl) pa_nil))) (pe_one (pe_cmpR op_eq (pe_fld (pv 0) rfl) (pe_fld (pv 1) rfl) (nomark _))))), ?_⟩
    rcases h with ⟨b, k', args', rfl, hb, q⟩ | ⟨b, zs, rfl, hb, q⟩
    · obtain ⟨dy, eb⟩ := hb.ob
      refine ⟨_, rfl, _, _, _, _, _, rfl, .own _, (PC.q k').ty eb, PC.isi k' .room, ?_⟩
      refine ⟨_, rfl, ?_⟩
      obtain ⟨l1, g1⟩ := good_args ha.good
      obtain ⟨x, rfl⟩ := whole_of (s := .r) l1
      by_cases e : k' = .room
      · subst e
        obtain ⟨l2, g2⟩ := good_args hb.good
        obtain ⟨y, rfl⟩ := whole_of (s := .r) l2
        rw [dec_1] at q
        rw [decide_eq_true rfl]
        refine iteT ⟨_, rfl, a, _, dx, _, _, rfl, ea, (PC.q _).cl, (PC.q _).no _ (.head _), zip_fst, _, rfl, b, _, dy, _, _, rfl, eb, (PC.q _).cl, (PC.q _).no _ (.head _), zip_fst, good_scal (g1 _ (.head _)) (g2 _ (.head _)), q⟩
      · rw [dec_ne (fun z => e z.symm)] at q
        rw [decide_eq_false e]
        exact iteF q
    · exact ⟨_, rfl, _, _, _, _, _, rfl, .own _, .base (.tup hb), PC.ist _, _, rfl, iteF q⟩
theorem sc_qnotroom : FnScope ["self", "other"] ["self", "other"] (defScope sNotInRoom_eq) := ⟨rfl, rfl, rfl, by decide +kernel, rfl, by decide +kernel, by decide +kernel⟩
theorem ok_qnotroom {f : Addr} {fd : FuncData} {Cs : Pk → Addr} (F : Fun K "__eq__" "NotInRoom.__eq__" sNotInRoom_eq f fd) (B : Bm mg) (PC : PkC K Cs) (mC : mg "NotInRoom" = some (.ref (Cs .notroom))) : FnOk P w K mg base CX0 1 f fd ["self", "other"] (spPEq Cs .notroom) := by
  refine F.ok sc_qnotroom (fun vs H Q E h => ?_) (fun cdv A outer s H vs Q E hr h => ?_)
  · obtain ⟨a, y, args, rfl, _⟩ := h
    rfl
  · obtain ⟨a, y, args, rfl, ha, h⟩ := h
    obtain ⟨dx, ea⟩ := ha.ob
    refine ⟨_, pss_one (ps_ret (pe_and (pe_callB call_isi (by rfl) B.isinstance (by decide +kernel) (pa_cons (pv 1) (pa_cons (pe_glob (v := .ref (Cs .notroom)) rfl mC rfl) pa_nil))) (pe_one (pe_cmpR op_eq (pe_fld (pv 0) rfl) (pe_fld (pv 1) rfl) (nomark _))))), ?_⟩
    rcases h with ⟨b, k', args', rfl, hb, q⟩ | ⟨b, zs, rfl, hb, q⟩
    · obtain ⟨dy, eb⟩ := hb.ob
      refine ⟨_, rfl, _, _, _, _, _, rfl, .own _, (PC.q k').ty eb, PC.isi k' .notroom, ?_⟩
      refine ⟨_, rfl, ?_⟩
      obtain ⟨l1, g1⟩ := good_args ha.good
      obtain ⟨x, rfl⟩ := whole_of (s := .r) l1
      by_cases e : k' = .notroom
      · subst e
        obtain ⟨l2, g2⟩ := good_args hb.good
        obtain ⟨y, rfl⟩ := whole_of (s := .r) l2
        rw [dec_1] at q
        rw [decide_eq_true rfl]
        refine iteT ⟨_, rfl, a, _, dx, _, _, rfl, ea, (PC.q _).cl, (PC.q _).no _ (.head _), zip_fst, _, rfl, b, _, dy, _, _, rfl, eb, (PC.q _).cl, (PC.q _).no _ (.head _), zip_fst, good_scal (g1 _ (.head _)) (g2 _ (.head _)), q⟩
      · rw [dec_ne (fun z => e z.symm)] at q
        rw [decide_eq_false e]
        exact iteF q
    · exact ⟨_, rfl, _, _, _, _, _, rfl, .own _, .base (.tup hb), PC.ist _, _, rfl, iteF q⟩
theorem sc_qis_ : FnScope ["self", "other"] ["self", "other"] (defScope sIs_eq) := ⟨rfl, rfl, rfl, by decide +kernel, rfl, by decide +kernel, by decide +kernel⟩
theorem ok_qis_ {f : Addr} {fd : FuncData} {Cs : Pk → Addr} (F : Fun K "__eq__" "Is.__eq__" sIs_eq f fd) (B : Bm mg) (PC : PkC K Cs) (mC : mg "Is" = some (.ref (Cs .is_))) : FnOk P w K mg base CX0 1 f fd ["self", "other"] (spPEq Cs .is_) := by
  refine F.ok sc_qis_ (fun vs H Q E h => ?_) (fun cdv A outer s H vs Q E hr h => ?_)
  · obtain ⟨a, y, args, rfl, _⟩ := h
    rfl
  · obtain ⟨a, y, args, rfl, ha, h⟩ := h
    obtain ⟨dx, ea⟩ := ha.ob
    refine ⟨_, pss_one (ps_ret (pe_and (pe_callB call_isi (by rfl) B.isinstance (by decide +kernel) (pa_cons (pv 1) (pa_cons (pe_glob (v := .ref (Cs .is_)) rfl mC rfl) pa_nil))) (pe_and (pe_cmpR op_eq (pe_fld (pv 0) rfl) (pe_fld (pv 1) rfl) (nomark _)) (pe_one (pe_cmpR op_eq (pe_fld (pv 0) rfl) (pe_fld (pv 1) rfl) (nomark _)))))), ?_⟩
    rcases h with ⟨b, k', args', rfl, hb, q⟩ | ⟨b, zs, rfl, hb, q⟩
    · obtain ⟨dy, eb⟩ := hb.ob
      refine ⟨_, rfl, _, _, _, _, _, rfl, .own _, (PC.q k').ty eb, PC.isi k' .is_, ?_⟩
      refine ⟨_, rfl, ?_⟩
      obtain ⟨l1, g1⟩ := good_args ha.good
      obtain ⟨x, u, rfl⟩ := whole_of (s := .s) l1
      by_cases e : k' = .is_
      · subst e
        obtain ⟨l2, g2⟩ := good_args hb.good
        obtain ⟨y, v, rfl⟩ := whole_of (s := .s) l2
        rw [dec_2] at q
        rw [decide_eq_true rfl]
        refine iteT ⟨_, rfl, a, _, dx, _, _, rfl, ea, (PC.q _).cl, (PC.q _).no _ (.head _), zip_fst, _, rfl, b, _, dy, _, _, rfl, eb, (PC.q _).cl, (PC.q _).no _ (.head _), zip_fst, good_scal (g1 _ (.head _)) (g2 _ (.head _)), _, rfl, ?_⟩
        cases e1 : decide (x = y) with
        | false => rw [e1] at q; exact iteF q
        | true =>
          rw [e1, Bool.true_and] at q
          exact iteT ⟨_, rfl, a, _, dx, _, _, rfl, ea, (PC.q _).cl, (PC.q _).no _ (.tail _ (.head _)), zip_snd s_sw, _, rfl, b, _, dy, _, _, rfl, eb, (PC.q _).cl, (PC.q _).no _ (.tail _ (.head _)), zip_snd s_sw, good_scal (g1 _ (.tail _ (.head _))) (g2 _ (.tail _ (.head _))), q⟩
      · rw [dec_ne (fun z => e z.symm)] at q
        rw [decide_eq_false e]
        exact iteF q
    · exact ⟨_, rfl, _, _, _, _, _, rfl, .own _, .base (.tup hb), PC.ist _, _, rfl, iteF q⟩
theorem sc_qisnot : FnScope ["self", "other"] ["self", "other"] (defScope sIsNot_eq) := ⟨rfl, rfl, rfl, by decide +kernel, rfl, by decide +kernel, by decide +kernel⟩
theorem ok_qisnot {f : Addr} {fd : FuncData} {Cs : Pk → Addr} (F : Fun K "__eq__" "IsNot.__eq__" sIsNot_eq f fd) (B : Bm mg) (PC : PkC K Cs) (mC : mg "IsNot" = some (.ref (Cs .isnot))) : FnOk P w K mg base CX0 1 f fd ["self", "other"] (spPEq Cs .isnot) := by
  refine F.ok sc_qisnot (fun vs H Q E h => ?_) (fun cdv A outer s H vs Q E hr h => ?_)
  · obtain ⟨a, y, args, rfl, _⟩ := h
    rfl
  · obtain ⟨a, y, args, rfl, ha, h⟩ := h
    obtain ⟨dx, ea⟩ := ha.ob
    refine ⟨_, pss_one (ps_ret (pe_and (pe_callB call_isi (by rfl) B.isinstance (by decide +kernel) (pa_cons (pv 1) (pa_cons (pe_glob (v := .ref (Cs .isnot)) rfl mC rfl) pa_nil))) (pe_and (pe_cmpR op_eq (pe_fld (pv 0) rfl) (pe_fld (pv 1) rfl) (nomark _)) (pe_one (pe_cmpR op_eq (pe_fld (pv 0) rfl) (pe_fld (pv 1) rfl) (nomark _)))))), ?_⟩
    rcases h with ⟨b, k', args', rfl, hb, q⟩ | ⟨b, zs, rfl, hb, q⟩
    · obtain ⟨dy, eb⟩ := hb.ob
      refine ⟨_, rfl, _, _, _, _, _, rfl, .own _, (PC.q k').ty eb, PC.isi k' .isnot, ?_⟩
      refine ⟨_, rfl, ?_⟩
      obtain ⟨l1, g1⟩ := good_args ha.good
      obtain ⟨x, u, rfl⟩ := whole_of (s := .s) l1
      by_cases e : k' = .isnot
      · subst e
        obtain ⟨l2, g2⟩ := good_args hb.good
        obtain ⟨y, v, rfl⟩ := whole_of (s := .s) l2
        rw [dec_2] at q
        rw [decide_eq_true rfl]
        refine iteT ⟨_, rfl, a, _, dx, _, _, rfl, ea, (PC.q _).cl, (PC.q _).no _ (.head _), zip_fst, _, rfl, b, _, dy, _, _, rfl, eb, (PC.q _).cl, (PC.q _).no _ (.head _), zip_fst, good_scal (g1 _ (.head _)) (g2 _ (.head _)), _, rfl, ?_⟩
        cases e1 : decide (x = y) with
        | false => rw [e1] at q; exact iteF q
        | true =>
          rw [e1, Bool.true_and] at q
          exact iteT ⟨_, rfl, a, _, dx, _, _, rfl, ea, (PC.q _).cl, (PC.q _).no _ (.tail _ (.head _)), zip_snd s_sw, _, rfl, b, _, dy, _, _, rfl, eb, (PC.q _).cl, (PC.q _).no _ (.tail _ (.head _)), zip_snd s_sw, good_scal (g1 _ (.tail _ (.head _))) (g2 _ (.tail _ (.head _))), q⟩
      · rw [dec_ne (fun z => e z.symm)] at q
        rw [decide_eq_false e]
        exact iteF q
    · exact ⟨_, rfl, _, _, _, _, _, rfl, .own _, .base (.tup hb), PC.ist _, _, rfl, iteF q⟩
theorem sc_qsame : FnScope ["self", "other"] ["self", "other"] (defScope sSamePerson_eq) := ⟨rfl, rfl, rfl, by decide +kernel, rfl, by decide +kernel, by decide +kernel⟩
theorem ok_qsame {f : Addr} {fd : FuncData} {Cs : Pk → Addr} (F : Fun K "__eq__" "SamePerson.__eq__" sSamePerson_eq f fd) (B : Bm mg) (PC : PkC K Cs) (mC : mg "SamePerson" = some (.ref (Cs .same))) : FnOk P w K mg base CX0 1 f fd ["self", "other"] (spPEq Cs .same) := by
  refine F.ok sc_qsame (fun vs H Q E h => ?_) (fun cdv A outer s H vs Q E hr h => ?_)
  · obtain ⟨a, y, args, rfl, _⟩ := h
    rfl
  · obtain ⟨a, y, args, rfl, ha, h⟩ := h
    obtain ⟨dx, ea⟩ := ha.ob
    refine ⟨_, pss_one (ps_ret (pe_callB call_isi (by rfl) B.isinstance (by decide +kernel) (pa_cons (pv 1) (pa_cons (pe_glob (v := .ref (Cs .same)) rfl mC rfl) pa_nil)))), ?_⟩
    rcases h with ⟨b, k', args', rfl, hb, q⟩ | ⟨b, zs, rfl, hb, q⟩
    · obtain ⟨dy, eb⟩ := hb.ob
      refine ⟨_, rfl, _, _, _, _, _, rfl, .own _, (PC.q k').ty eb, PC.isi k' .same, ?_⟩
      obtain ⟨l1, _⟩ := good_args ha.good
      have z1 : args = [] := whole_of (s := .n) l1
      subst z1
      by_cases e : k' = .same
      · subst e
        obtain ⟨l2, _⟩ := good_args hb.good
        have z2 : args' = [] := whole_of (s := .n) l2
        subst z2
        rw [dec_0] at q
        rw [decide_eq_true rfl]
        exact q
      · rw [dec_ne (fun z => e z.symm)] at q
        rw [decide_eq_false e]
        exact q
    · exact ⟨_, rfl, _, _, _, _, _, rfl, .own _, .base (.tup hb), PC.ist _, q⟩
theorem sc_qapart : FnScope ["self", "other"] ["self", "other"] (defScope sApart_eq) := ⟨rfl, rfl, rfl, by decide +kernel, rfl, by decide +kernel, by decide +kernel⟩
theorem ok_qapart {f : Addr} {fd : FuncData} {Cs : Pk → Addr} (F : Fun K "__eq__" "Apart.__eq__" sApart_eq f fd) (B : Bm mg) (PC : PkC K Cs) (mC : mg "Apart" = some (.ref (Cs .apart))) : FnOk P w K mg base CX0 1 f fd ["self", "other"] (spPEq Cs .apart) := by
  refine F.ok sc_qapart (fun vs H Q E h => ?_) (fun cdv A outer s H vs Q E hr h => ?_)
  · obtain ⟨a, y, args, rfl, _⟩ := h
    rfl
  · obtain ⟨a, y, args, rfl, ha, h⟩ := h
    obtain ⟨dx, ea⟩ := ha.ob
    refine ⟨_, pss_one (ps_ret (pe_callB call_isi (by rfl) B.isinstance (by decide +kernel) (pa_cons (pv 1) (pa_cons (pe_glob (v := .ref (Cs .apart)) rfl mC rfl) pa_nil)))), ?_⟩
    rcases h with ⟨b, k', args', rfl, hb, q⟩ | ⟨b, zs, rfl, hb, q⟩
    · obtain ⟨dy, eb⟩ := hb.ob
      refine ⟨_, rfl, _, _, _, _, _, rfl, .own _, (PC.q k').ty eb, PC.isi k' .apart, ?_⟩
      obtain ⟨l1, _⟩ := good_args ha.good
      have z1 : args = [] := whole_of (s := .n) l1
      subst z1
      by_cases e : k' = .apart
      · subst e
        obtain ⟨l2, _⟩ := good_args hb.good
        have z2 : args' = [] := whole_of (s := .n) l2
        subst z2
        rw [dec_0] at q
        rw [decide_eq_true rfl]
        exact q
      · rw [dec_ne (fun z => e z.symm)] at q
        rw [decide_eq_false e]
        exact q
    · exact ⟨_, rfl, _, _, _, _, _, rfl, .own _, .base (.tup hb), PC.ist _, q⟩
theorem sc_qleast : FnScope ["self", "other"] ["self", "other"] (defScope sAtLeast_eq) := ⟨rfl, rfl, rfl, by decide +kernel, rfl, by decide +kernel, by decide +kernel⟩
theorem ok_qleast {f : Addr} {fd : FuncData} {Cs : Pk → Addr} (F : Fun K "__eq__" "AtLeast.__eq__" sAtLeast_eq f fd) (B : Bm mg) (PC : PkC K Cs) (mC : mg "AtLeast" = some (.ref (Cs .least))) : FnOk P w K mg base CX0 1 f fd ["self", "other"] (spPEq Cs .least) := by
  refine F.ok sc_qleast (fun vs H Q E h => ?_) (fun cdv A outer s H vs Q E hr h => ?_)
  · obtain ⟨a, y, args, rfl, _⟩ := h
    rfl
  · obtain ⟨a, y, args, rfl, ha, h⟩ := h
    obtain ⟨dx, ea⟩ := ha.ob
    refine ⟨_, pss_one (ps_ret (pe_and (pe_callB call_isi (by rfl) B.isinstance (by decide +kernel) (pa_cons (pv 1) (pa_cons (pe_glob (v := .ref (Cs .least)) rfl mC rfl) pa_nil))) (pe_and (pe_cmpR op_eq (pe_fld (pv 0) rfl) (pe_fld (pv 1) rfl) (nomark _)) (pe_one (pe_cmpR op_eq (pe_fld (pv 0) rfl) (pe_fld (pv 1) rfl) (nomark _)))))), ?_⟩
    rcases h with ⟨b, k', args', rfl, hb, q⟩ | ⟨b, zs, rfl, hb, q⟩
    · obtain ⟨dy, eb⟩ := hb.ob
      refine ⟨_, rfl, _, _, _, _, _, rfl, .own _, (PC.q k').ty eb, PC.isi k' .least, ?_⟩
      refine ⟨_, rfl, ?_⟩
      obtain ⟨l1, g1⟩ := good_args ha.good
      obtain ⟨x, u, rfl⟩ := whole_of (s := .c) l1
      by_cases e : k' = .least
      · subst e
        obtain ⟨l2, g2⟩ := good_args hb.good
        obtain ⟨y, v, rfl⟩ := whole_of (s := .c) l2
        rw [dec_2] at q
        rw [decide_eq_true rfl]
        refine iteT ⟨_, rfl, a, _, dx, _, _, rfl, ea, (PC.q _).cl, (PC.q _).no _ (.head _), zip_fst, _, rfl, b, _, dy, _, _, rfl, eb, (PC.q _).cl, (PC.q _).no _ (.head _), zip_fst, good_scal (g1 _ (.head _)) (g2 _ (.head _)), _, rfl, ?_⟩
        cases e1 : decide (x = y) with
        | false => rw [e1] at q; exact iteF q
        | true =>
          rw [e1, Bool.true_and] at q
          exact iteT ⟨_, rfl, a, _, dx, _, _, rfl, ea, (PC.q _).cl, (PC.q _).no _ (.tail _ (.head _)), zip_snd s_cn, _, rfl, b, _, dy, _, _, rfl, eb, (PC.q _).cl, (PC.q _).no _ (.tail _ (.head _)), zip_snd s_cn, good_scal (g1 _ (.tail _ (.head _))) (g2 _ (.tail _ (.head _))), q⟩
      · rw [dec_ne (fun z => e z.symm)] at q
        rw [decide_eq_false e]
        exact iteF q
    · exact ⟨_, rfl, _, _, _, _, _, rfl, .own _, .base (.tup hb), PC.ist _, _, rfl, iteF q⟩
theorem sc_qbelow : FnScope ["self", "other"] ["self", "other"] (defScope sBelow_eq) := ⟨rfl, rfl, rfl, by decide +kernel, rfl, by decide +kernel, by decide +kernel⟩
theorem ok_qbelow {f : Addr} {fd : FuncData} {Cs : Pk → Addr} (F : Fun K "__eq__" "Below.__eq__" sBelow_eq f fd) (B : Bm mg) (PC : PkC K Cs) (mC : mg "Below" = some (.ref (Cs .below))) : FnOk P w K mg base CX0 1 f fd ["self", "other"] (spPEq Cs .below) := by
  refine F.ok sc_qbelow (fun vs H Q E h => ?_) (fun cdv A outer s H vs Q E hr h => ?_)
  · obtain ⟨a, y, args, rfl, _⟩ := h
    rfl
  · obtain ⟨a, y, args, rfl, ha, h⟩ := h
    obtain ⟨dx, ea⟩ := ha.ob
    refine ⟨_, pss_one (ps_ret (pe_and (pe_callB call_isi (by rfl) B.isinstance (by decide +kernel) (pa_cons (pv 1) (pa_cons (pe_glob (v := .ref (Cs .below)) rfl mC rfl) pa_nil))) (pe_and (pe_cmpR op_eq (pe_fld (pv 0) rfl) (pe_fld (pv 1) rfl) (nomark _)) (pe_one (pe_cmpR op_eq (pe_fld (pv 0) rfl) (pe_fld (pv 1) rfl) (nomark _)))))), ?_⟩
    rcases h with ⟨b, k', args', rfl, hb, q⟩ | ⟨b, zs, rfl, hb, q⟩
    · obtain ⟨dy, eb⟩ := hb.ob
      refine ⟨_, rfl, _, _, _, _, _, rfl, .own _, (PC.q k').ty eb, PC.isi k' .below, ?_⟩
      refine ⟨_, rfl, ?_⟩
      obtain ⟨l1, g1⟩ := good_args ha.good
      obtain ⟨x, u, rfl⟩ := whole_of (s := .c) l1
      by_cases e : k' = .below
      · subst e
        obtain ⟨l2, g2⟩ := good_args hb.good
        obtain ⟨y, v, rfl⟩ := whole_of (s := .c) l2
        rw [dec_2] at q
        rw [decide_eq_true rfl]
        refine iteT ⟨_, rfl, a, _, dx, _, _, rfl, ea, (PC.q _).cl, (PC.q _).no _ (.head _), zip_fst, _, rfl, b, _, dy, _, _, rfl, eb, (PC.q _).cl, (PC.q _).no _ (.head _), zip_fst, good_scal (g1 _ (.head _)) (g2 _ (.head _)), _, rfl, ?_⟩
        cases e1 : decide (x = y) with
        | false => rw [e1] at q; exact iteF q
        | true =>
          rw [e1, Bool.true_and] at q
          exact iteT ⟨_, rfl, a, _, dx, _, _, rfl, ea, (PC.q _).cl, (PC.q _).no _ (.tail _ (.head _)), zip_snd s_cn, _, rfl, b, _, dy, _, _, rfl, eb, (PC.q _).cl, (PC.q _).no _ (.tail _ (.head _)), zip_snd s_cn, good_scal (g1 _ (.tail _ (.head _))) (g2 _ (.tail _ (.head _))), q⟩
      · rw [dec_ne (fun z => e z.symm)] at q
        rw [decide_eq_false e]
        exact iteF q
    · exact ⟨_, rfl, _, _, _, _, _, rfl, .own _, .base (.tup hb), PC.ist _, _, rfl, iteF q⟩
theorem sc_qto : FnScope ["self", "other"] ["self", "other"] (defScope sToRoom_eq) := ⟨rfl, rfl, rfl, by decide +kernel, rfl, by decide +kernel, by decide +kernel⟩
theorem ok_qto {f : Addr} {fd : FuncData} {Cs : Pk → Addr} (F : Fun K "__eq__" "ToRoom.__eq__" sToRoom_eq f fd) (B : Bm mg) (PC : PkC K Cs) (mC : mg "ToRoom" = some (.ref (Cs .to))) : FnOk P w K mg base CX0 1 f fd ["self", "other"] (spPEq Cs .to) := by
  refine F.ok sc_qto (fun vs H Q E h => ?_) (fun cdv A outer s H vs Q E hr h => ?_)
  · obtain ⟨a, y, args, rfl, _⟩ := h
    rfl
  · obtain ⟨a, y, args, rfl, ha, h⟩ := h
    obtain ⟨dx, ea⟩ := ha.ob
    refine ⟨_, pss_one (ps_ret (pe_and (pe_callB call_isi (by rfl) B.isinstance (by decide +kernel) (pa_cons (pv 1) (pa_cons (pe_glob (v := .ref (Cs .to)) rfl mC rfl) pa_nil))) (pe_one (pe_cmpR op_eq (pe_fld (pv 0) rfl) (pe_fld (pv 1) rfl) (nomark _))))), ?_⟩
    rcases h with ⟨b, k', args', rfl, hb, q⟩ | ⟨b, zs, rfl, hb, q⟩
    · obtain ⟨dy, eb⟩ := hb.ob
      refine ⟨_, rfl, _, _, _, _, _, rfl, .own _, (PC.q k').ty eb, PC.isi k' .to, ?_⟩
      refine ⟨_, rfl, ?_⟩
      obtain ⟨l1, g1⟩ := good_args ha.good
      obtain ⟨x, rfl⟩ := whole_of (s := .r) l1
      by_cases e : k' = .to
      · subst e
        obtain ⟨l2, g2⟩ := good_args hb.good
        obtain ⟨y, rfl⟩ := whole_of (s := .r) l2
        rw [dec_1] at q
        rw [decide_eq_true rfl]
        refine iteT ⟨_, rfl, a, _, dx, _, _, rfl, ea, (PC.q _).cl, (PC.q _).no _ (.head _), zip_fst, _, rfl, b, _, dy, _, _, rfl, eb, (PC.q _).cl, (PC.q _).no _ (.head _), zip_fst, good_scal (g1 _ (.head _)) (g2 _ (.head _)), q⟩
      · rw [dec_ne (fun z => e z.symm)] at q
        rw [decide_eq_false e]
        exact iteF q
    · exact ⟨_, rfl, _, _, _, _, _, rfl, .own _, .base (.tup hb), PC.ist _, _, rfl, iteF q⟩
theorem sc_qput : FnScope ["self", "other"] ["self", "other"] (defScope sPut_eq) := ⟨rfl, rfl, rfl, by decide +kernel, rfl, by decide +kernel, by decide +kernel⟩
theorem ok_qput {f : Addr} {fd : FuncData} {Cs : Pk → Addr} (F : Fun K "__eq__" "Put.__eq__" sPut_eq f fd) (B : Bm mg) (PC : PkC K Cs) (mC : mg "Put" = some (.ref (Cs .put))) : FnOk P w K mg base CX0 1 f fd ["self", "other"] (spPEq Cs .put) := by
  refine F.ok sc_qput (fun vs H Q E h => ?_) (fun cdv A outer s H vs Q E hr h => ?_)
  · obtain ⟨a, y, args, rfl, _⟩ := h
    rfl
  · obtain ⟨a, y, args, rfl, ha, h⟩ := h
    obtain ⟨dx, ea⟩ := ha.ob
    refine ⟨_, pss_one (ps_ret (pe_and (pe_callB call_isi (by rfl) B.isinstance (by decide +kernel) (pa_cons (pv 1) (pa_cons (pe_glob (v := .ref (Cs .put)) rfl mC rfl) pa_nil))) (pe_and (pe_cmpR op_eq (pe_fld (pv 0) rfl) (pe_fld (pv 1) rfl) (nomark _)) (pe_one (pe_cmpR op_eq (pe_fld (pv 0) rfl) (pe_fld (pv 1) rfl) (nomark _)))))), ?_⟩
    rcases h with ⟨b, k', args', rfl, hb, q⟩ | ⟨b, zs, rfl, hb, q⟩
    · obtain ⟨dy, eb⟩ := hb.ob
      refine ⟨_, rfl, _, _, _, _, _, rfl, .own _, (PC.q k').ty eb, PC.isi k' .put, ?_⟩
      refine ⟨_, rfl, ?_⟩
      obtain ⟨l1, g1⟩ := good_args ha.good
      obtain ⟨x, u, rfl⟩ := whole_of (s := .s) l1
      by_cases e : k' = .put
      · subst e
        obtain ⟨l2, g2⟩ := good_args hb.good
        obtain ⟨y, v, rfl⟩ := whole_of (s := .s) l2
        rw [dec_2] at q
        rw [decide_eq_true rfl]
        refine iteT ⟨_, rfl, a, _, dx, _, _, rfl, ea, (PC.q _).cl, (PC.q _).no _ (.head _), zip_fst, _, rfl, b, _, dy, _, _, rfl, eb, (PC.q _).cl, (PC.q _).no _ (.head _), zip_fst, good_scal (g1 _ (.head _)) (g2 _ (.head _)), _, rfl, ?_⟩
        cases e1 : decide (x = y) with
        | false => rw [e1] at q; exact iteF q
        | true =>
          rw [e1, Bool.true_and] at q
          exact iteT ⟨_, rfl, a, _, dx, _, _, rfl, ea, (PC.q _).cl, (PC.q _).no _ (.tail _ (.head _)), zip_snd s_sw, _, rfl, b, _, dy, _, _, rfl, eb, (PC.q _).cl, (PC.q _).no _ (.tail _ (.head _)), zip_snd s_sw, good_scal (g1 _ (.tail _ (.head _))) (g2 _ (.tail _ (.head _))), q⟩
      · rw [dec_ne (fun z => e z.symm)] at q
        rw [decide_eq_false e]
        exact iteF q
    · exact ⟨_, rfl, _, _, _, _, _, rfl, .own _, .base (.tup hb), PC.ist _, _, rfl, iteF q⟩
theorem sc_qzero : FnScope ["self", "other"] ["self", "other"] (defScope sZero_eq) := ⟨rfl, rfl, rfl, by decide +kernel, rfl, by decide +kernel, by decide +kernel⟩
theorem ok_qzero {f : Addr} {fd : FuncData} {Cs : Pk → Addr} (F : Fun K "__eq__" "Zero.__eq__" sZero_eq f fd) (B : Bm mg) (PC : PkC K Cs) (mC : mg "Zero" = some (.ref (Cs .zero))) : FnOk P w K mg base CX0 1 f fd ["self", "other"] (spPEq Cs .zero) := by
  refine F.ok sc_qzero (fun vs H Q E h => ?_) (fun cdv A outer s H vs Q E hr h => ?_)
  · obtain ⟨a, y, args, rfl, _⟩ := h
    rfl
  · obtain ⟨a, y, args, rfl, ha, h⟩ := h
    obtain ⟨dx, ea⟩ := ha.ob
    refine ⟨_, pss_one (ps_ret (pe_and (pe_callB call_isi (by rfl) B.isinstance (by decide +kernel) (pa_cons (pv 1) (pa_cons (pe_glob (v := .ref (Cs .zero)) rfl mC rfl) pa_nil))) (pe_one (pe_cmpR op_eq (pe_fld (pv 0) rfl) (pe_fld (pv 1) rfl) (nomark _))))), ?_⟩
    rcases h with ⟨b, k', args', rfl, hb, q⟩ | ⟨b, zs, rfl, hb, q⟩
    · obtain ⟨dy, eb⟩ := hb.ob
      refine ⟨_, rfl, _, _, _, _, _, rfl, .own _, (PC.q k').ty eb, PC.isi k' .zero, ?_⟩
      refine ⟨_, rfl, ?_⟩
      obtain ⟨l1, g1⟩ := good_args ha.good
      obtain ⟨x, rfl⟩ := whole_of (s := .k) l1
      by_cases e : k' = .zero
      · subst e
        obtain ⟨l2, g2⟩ := good_args hb.good
        obtain ⟨y, rfl⟩ := whole_of (s := .k) l2
        rw [dec_1] at q
        rw [decide_eq_true rfl]
        refine iteT ⟨_, rfl, a, _, dx, _, _, rfl, ea, (PC.q _).cl, (PC.q _).no _ (.head _), zip_fst, _, rfl, b, _, dy, _, _, rfl, eb, (PC.q _).cl, (PC.q _).no _ (.head _), zip_fst, good_scal (g1 _ (.head _)) (g2 _ (.head _)), q⟩
      · rw [dec_ne (fun z => e z.symm)] at q
        rw [decide_eq_false e]
        exact iteF q
    · exact ⟨_, rfl, _, _, _, _, _, rfl, .own _, .base (.tup hb), PC.ist _, _, rfl, iteF q⟩
theorem sc_qrun : FnScope ["self", "other"] ["self", "other"] (defScope sRun_eq) := ⟨rfl, rfl, rfl, by decide +kernel, rfl, by decide +kernel, by decide +kernel⟩
theorem ok_qrun {f : Addr} {fd : FuncData} {Cs : Pk → Addr} (F : Fun K "__eq__" "Run.__eq__" sRun_eq f fd) (B : Bm mg) (PC : PkC K Cs) (mC : mg "Run" = some (.ref (Cs .run))) : FnOk P w K mg base CX0 1 f fd ["self", "other"] (spPEq Cs .run) := by
  refine F.ok sc_qrun (fun vs H Q E h => ?_) (fun cdv A outer s H vs Q E hr h => ?_)
  · obtain ⟨a, y, args, rfl, _⟩ := h
    rfl
  · obtain ⟨a, y, args, rfl, ha, h⟩ := h
    obtain ⟨dx, ea⟩ := ha.ob
    refine ⟨_, pss_one (ps_ret (pe_and (pe_callB call_isi (by rfl) B.isinstance (by decide +kernel) (pa_cons (pv 1) (pa_cons (pe_glob (v := .ref (Cs .run)) rfl mC rfl) pa_nil))) (pe_one (pe_cmpR op_eq (pe_fld (pv 0) rfl) (pe_fld (pv 1) rfl) (nomark _))))), ?_⟩
    rcases h with ⟨b, k', args', rfl, hb, q⟩ | ⟨b, zs, rfl, hb, q⟩
    · obtain ⟨dy, eb⟩ := hb.ob
      refine ⟨_, rfl, _, _, _, _, _, rfl, .own _, (PC.q k').ty eb, PC.isi k' .run, ?_⟩
      refine ⟨_, rfl, ?_⟩
      obtain ⟨l1, g1⟩ := good_args ha.good
      obtain ⟨x, rfl⟩ := whole_of (s := .k) l1
      by_cases e : k' = .run
      · subst e
        obtain ⟨l2, g2⟩ := good_args hb.good
        obtain ⟨y, rfl⟩ := whole_of (s := .k) l2
        rw [dec_1] at q
        rw [decide_eq_true rfl]
        refine iteT ⟨_, rfl, a, _, dx, _, _, rfl, ea, (PC.q _).cl, (PC.q _).no _ (.head _), zip_fst, _, rfl, b, _, dy, _, _, rfl, eb, (PC.q _).cl, (PC.q _).no _ (.head _), zip_fst, good_scal (g1 _ (.head _)) (g2 _ (.head _)), q⟩
      · rw [dec_ne (fun z => e z.symm)] at q
        rw [decide_eq_false e]
        exact iteF q
    · exact ⟨_, rfl, _, _, _, _, _, rfl, .own _, .base (.tup hb), PC.ist _, _, rfl, iteF q⟩
theorem sc_qhalt : FnScope ["self", "other"] ["self", "other"] (defScope sHalt_eq) := ⟨rfl, rfl, rfl, by decide +kernel, rfl, by decide +kernel, by decide +kernel⟩
theorem ok_qhalt {f : Addr} {fd : FuncData} {Cs : Pk → Addr} (F : Fun K "__eq__" "Halt.__eq__" sHalt_eq f fd) (B : Bm mg) (PC : PkC K Cs) (mC : mg "Halt" = some (.ref (Cs .halt))) : FnOk P w K mg base CX0 1 f fd ["self", "other"] (spPEq Cs .halt) := by
  refine F.ok sc_qhalt (fun vs H Q E h => ?_) (fun cdv A outer s H vs Q E hr h => ?_)
  · obtain ⟨a, y, args, rfl, _⟩ := h
    rfl
  · obtain ⟨a, y, args, rfl, ha, h⟩ := h
    obtain ⟨dx, ea⟩ := ha.ob
    refine ⟨_, pss_one (ps_ret (pe_and (pe_callB call_isi (by rfl) B.isinstance (by decide +kernel) (pa_cons (pv 1) (pa_cons (pe_glob (v := .ref (Cs .halt)) rfl mC rfl) pa_nil))) (pe_one (pe_cmpR op_eq (pe_fld (pv 0) rfl) (pe_fld (pv 1) rfl) (nomark _))))), ?_⟩
    rcases h with ⟨b, k', args', rfl, hb, q⟩ | ⟨b, zs, rfl, hb, q⟩
    · obtain ⟨dy, eb⟩ := hb.ob
      refine ⟨_, rfl, _, _, _, _, _, rfl, .own _, (PC.q k').ty eb, PC.isi k' .halt, ?_⟩
      refine ⟨_, rfl, ?_⟩
      obtain ⟨l1, g1⟩ := good_args ha.good
      obtain ⟨x, rfl⟩ := whole_of (s := .k) l1
      by_cases e : k' = .halt
      · subst e
        obtain ⟨l2, g2⟩ := good_args hb.good
        obtain ⟨y, rfl⟩ := whole_of (s := .k) l2
        rw [dec_1] at q
        rw [decide_eq_true rfl]
        refine iteT ⟨_, rfl, a, _, dx, _, _, rfl, ea, (PC.q _).cl, (PC.q _).no _ (.head _), zip_fst, _, rfl, b, _, dy, _, _, rfl, eb, (PC.q _).cl, (PC.q _).no _ (.head _), zip_fst, good_scal (g1 _ (.head _)) (g2 _ (.head _)), q⟩
      · rw [dec_ne (fun z => e z.symm)] at q
        rw [decide_eq_false e]
        exact iteF q
    · exact ⟨_, rfl, _, _, _, _, _, rfl, .own _, .base (.tup hb), PC.ist _, _, rfl, iteF q⟩
end
end Kx

set_option maxHeartbeats 4000000
namespace Kx
open PySem L2
section
variable {P : Program} {w : World} {K : PySem.W.Frag} {mg : Str → Option Value} {base : Heap}


/-- the other condition of the pair -/
def spOpp (Cs : Pk → Addr) (k : Pk) : Sp := fun vs H Q _ => ∃ (a : Addr) (args : List V), vs = [.ref a] ∧ PcA Cs H a k args ∧ ∀ (b : Addr) H', H b = none → Same H H' → PcA Cs H' b k.opp args → Q (.ref b) H'
/-- how a piece's class is made -/
structure MkP (P : Program) (w : World) (K : PySem.W.Frag) (mg : Str → Option Value) (base : Heap) (x : Str) (s : Sh) (C CB fI : Addr) (fdI : FuncData) (ps : List Str) : Prop where
  MK : Mk K C fI
  G : FnOk P w K mg base (L2.CX P w) 4 fI fdI ps (spI s C CB)
  m : mg x = some (.ref C)
  b : Binds K fdI ps []

theorem sc_oroom : FnScope ["self"] ["self"] (defScope sInRoom_opposite) := ⟨rfl, rfl, rfl, by decide +kernel, rfl, by decide +kernel, by decide +kernel⟩
theorem ok_oroom {f CB fI : Addr} {fd fdI : FuncData} {Cs : Pk → Addr} (F : Fun K "opposite" "InRoom.opposite" sInRoom_opposite f fd) (PC : PkC K Cs) (M : MkP P w K mg base "NotInRoom" .r (Cs .notroom) CB fI fdI ["self", "room"]) : FnOk P w K mg base CX0 6 f fd ["self"] (spOpp Cs .room) := by
  refine F.ok sc_oroom (fun vs H Q E h => ?_) (fun cdv A outer s H vs Q E hr h => ?_)
  · obtain ⟨a, args, rfl, _⟩ := h
    rfl
  · obtain ⟨a, args, rfl, ha, q⟩ := h
    obtain ⟨dx, ea⟩ := ha.ob
    have hg := ha.good
    obtain ⟨l1, _⟩ := good_args hg
    obtain ⟨x1, rfl⟩ := whole_of (s := .r) l1
    refine ⟨_, pss_one (ps_ret (pe_make M.MK M.G hr (by rfl) M.m M.b .nil passL (pa_cons (pe_fld (pv 0) rfl) pa_nil))), ?_⟩
    refine ⟨_, rfl, a, _, dx, _, _, rfl, ea, (PC.q _).cl, (PC.q _).no _ (.head _), zip_fst, fun x dx' hx hdx ne => ?_⟩
    have s0 : Same H (upd (upd H dx' (.own x)) x (.ins (Cs .notroom) dx' [])) := (sameUpd (Same.refl _) hdx).trans (sameUpd (Same.refl _) (by rw [upd_ne ne.symm]; exact hx))
    refine ⟨x, dx', [x1], rfl, rfl, upd_same, good_things hg, ?_⟩
    rw [show Sh.pw .r _ = none from hg]
    exact fun H' kp e => ⟨rfl, q x H' hx (fun b o hb => kp b o (s0 b o hb) (ne_of_none hb hx)) ⟨⟨dx', e⟩, hg⟩⟩
theorem sc_onotroom : FnScope ["self"] ["self"] (defScope sNotInRoom_opposite) := ⟨rfl, rfl, rfl, by decide +kernel, rfl, by decide +kernel, by decide +kernel⟩
theorem ok_onotroom {f CB fI : Addr} {fd fdI : FuncData} {Cs : Pk → Addr} (F : Fun K "opposite" "NotInRoom.opposite" sNotInRoom_opposite f fd) (PC : PkC K Cs) (M : MkP P w K mg base "InRoom" .r (Cs .room) CB fI fdI ["self", "room"]) : FnOk P w K mg base CX0 6 f fd ["self"] (spOpp Cs .notroom) := by
  refine F.ok sc_onotroom (fun vs H Q E h => ?_) (fun cdv A outer s H vs Q E hr h => ?_)
  · obtain ⟨a, args, rfl, _⟩ := h
    rfl
  · obtain ⟨a, args, rfl, ha, q⟩ := h
    obtain ⟨dx, ea⟩ := ha.ob
    have hg := ha.good
    obtain ⟨l1, _⟩ := good_args hg
    obtain ⟨x1, rfl⟩ := whole_of (s := .r) l1
    refine ⟨_, pss_one (ps_ret (pe_make M.MK M.G hr (by rfl) M.m M.b .nil passL (pa_cons (pe_fld (pv 0) rfl) pa_nil))), ?_⟩
    refine ⟨_, rfl, a, _, dx, _, _, rfl, ea, (PC.q _).cl, (PC.q _).no _ (.head _), zip_fst, fun x dx' hx hdx ne => ?_⟩
    have s0 : Same H (upd (upd H dx' (.own x)) x (.ins (Cs .room) dx' [])) := (sameUpd (Same.refl _) hdx).trans (sameUpd (Same.refl _) (by rw [upd_ne ne.symm]; exact hx))
    refine ⟨x, dx', [x1], rfl, rfl, upd_same, good_things hg, ?_⟩
    rw [show Sh.pw .r _ = none from hg]
    exact fun H' kp e => ⟨rfl, q x H' hx (fun b o hb => kp b o (s0 b o hb) (ne_of_none hb hx)) ⟨⟨dx', e⟩, hg⟩⟩
theorem sc_ois_ : FnScope ["self"] ["self"] (defScope sIs_opposite) := ⟨rfl, rfl, rfl, by decide +kernel, rfl, by decide +kernel, by decide +kernel⟩
theorem ok_ois_ {f CB fI : Addr} {fd fdI : FuncData} {Cs : Pk → Addr} (F : Fun K "opposite" "Is.opposite" sIs_opposite f fd) (PC : PkC K Cs) (M : MkP P w K mg base "IsNot" .s (Cs .isnot) CB fI fdI ["self", "seat", "what"]) : FnOk P w K mg base CX0 6 f fd ["self"] (spOpp Cs .is_) := by
  refine F.ok sc_ois_ (fun vs H Q E h => ?_) (fun cdv A outer s H vs Q E hr h => ?_)
  · obtain ⟨a, args, rfl, _⟩ := h
    rfl
  · obtain ⟨a, args, rfl, ha, q⟩ := h
    obtain ⟨dx, ea⟩ := ha.ob
    have hg := ha.good
    obtain ⟨l1, _⟩ := good_args hg
    obtain ⟨x1, y1, rfl⟩ := whole_of (s := .s) l1
    refine ⟨_, pss_one (ps_ret (pe_make M.MK M.G hr (by rfl) M.m M.b .nil passL (pa_cons (pe_fld (pv 0) rfl) (pa_cons (pe_fld (pv 0) rfl) pa_nil)))), ?_⟩
    refine ⟨_, rfl, a, _, dx, _, _, rfl, ea, (PC.q _).cl, (PC.q _).no _ (.head _), zip_fst, _, rfl, a, _, dx, _, _, rfl, ea, (PC.q _).cl, (PC.q _).no _ (.tail _ (.head _)), zip_snd s_sw, fun x dx' hx hdx ne => ?_⟩
    have s0 : Same H (upd (upd H dx' (.own x)) x (.ins (Cs .isnot) dx' [])) := (sameUpd (Same.refl _) hdx).trans (sameUpd (Same.refl _) (by rw [upd_ne ne.symm]; exact hx))
    refine ⟨x, dx', [x1, y1], rfl, rfl, upd_same, good_things hg, ?_⟩
    rw [show Sh.pw .s _ = none from hg]
    exact fun H' kp e => ⟨rfl, q x H' hx (fun b o hb => kp b o (s0 b o hb) (ne_of_none hb hx)) ⟨⟨dx', e⟩, hg⟩⟩
theorem sc_oisnot : FnScope ["self"] ["self"] (defScope sIsNot_opposite) := ⟨rfl, rfl, rfl, by decide +kernel, rfl, by decide +kernel, by decide +kernel⟩
theorem ok_oisnot {f CB fI : Addr} {fd fdI : FuncData} {Cs : Pk → Addr} (F : Fun K "opposite" "IsNot.opposite" sIsNot_opposite f fd) (PC : PkC K Cs) (M : MkP P w K mg base "Is" .s (Cs .is_) CB fI fdI ["self", "seat", "what"]) : FnOk P w K mg base CX0 6 f fd ["self"] (spOpp Cs .isnot) := by
  refine F.ok sc_oisnot (fun vs H Q E h => ?_) (fun cdv A outer s H vs Q E hr h => ?_)
  · obtain ⟨a, args, rfl, _⟩ := h
    rfl
  · obtain ⟨a, args, rfl, ha, q⟩ := h
    obtain ⟨dx, ea⟩ := ha.ob
    have hg := ha.good
    obtain ⟨l1, _⟩ := good_args hg
    obtain ⟨x1, y1, rfl⟩ := whole_of (s := .s) l1
    refine ⟨_, pss_one (ps_ret (pe_make M.MK M.G hr (by rfl) M.m M.b .nil passL (pa_cons (pe_fld (pv 0) rfl) (pa_cons (pe_fld (pv 0) rfl) pa_nil)))), ?_⟩
    refine ⟨_, rfl, a, _, dx, _, _, rfl, ea, (PC.q _).cl, (PC.q _).no _ (.head _), zip_fst, _, rfl, a, _, dx, _, _, rfl, ea, (PC.q _).cl, (PC.q _).no _ (.tail _ (.head _)), zip_snd s_sw, fun x dx' hx hdx ne => ?_⟩
    have s0 : Same H (upd (upd H dx' (.own x)) x (.ins (Cs .is_) dx' [])) := (sameUpd (Same.refl _) hdx).trans (sameUpd (Same.refl _) (by rw [upd_ne ne.symm]; exact hx))
    refine ⟨x, dx', [x1, y1], rfl, rfl, upd_same, good_things hg, ?_⟩
    rw [show Sh.pw .s _ = none from hg]
    exact fun H' kp e => ⟨rfl, q x H' hx (fun b o hb => kp b o (s0 b o hb) (ne_of_none hb hx)) ⟨⟨dx', e⟩, hg⟩⟩
theorem sc_osame : FnScope ["self"] ["self"] (defScope sSamePerson_opposite) := ⟨rfl, rfl, rfl, by decide +kernel, rfl, by decide +kernel, by decide +kernel⟩
theorem ok_osame {f : Addr} {fd : FuncData} {Cs : Pk → Addr} (F : Fun K "opposite" "SamePerson.opposite" sSamePerson_opposite f fd) (M : Mk0 K (Cs .apart)) (mC : mg "Apart" = some (.ref (Cs .apart))) : FnOk P w K mg base CX0 6 f fd ["self"] (spOpp Cs .same) := by
  refine F.ok sc_osame (fun vs H Q E h => ?_) (fun cdv A outer s H vs Q E hr h => ?_)
  · obtain ⟨a, args, rfl, _⟩ := h
    rfl
  · obtain ⟨a, args, rfl, ha, q⟩ := h
    obtain ⟨l1, _⟩ := good_args ha.good
    have z1 : args = [] := whole_of (s := .n) l1
    subst z1
    refine ⟨_, pss_one (ps_ret (pe_make00 M (by rfl) mC)), ?_⟩
    exact fun x dx hx hdx ne => q x _ hx ((sameUpd (Same.refl _) hdx).trans (sameUpd (Same.refl _) (by rw [upd_ne ne.symm]; exact hx))) ⟨⟨dx, upd_same⟩, rfl⟩
theorem sc_oapart : FnScope ["self"] ["self"] (defScope sApart_opposite) := ⟨rfl, rfl, rfl, by decide +kernel, rfl, by decide +kernel, by decide +kernel⟩
theorem ok_oapart {f : Addr} {fd : FuncData} {Cs : Pk → Addr} (F : Fun K "opposite" "Apart.opposite" sApart_opposite f fd) (M : Mk0 K (Cs .same)) (mC : mg "SamePerson" = some (.ref (Cs .same))) : FnOk P w K mg base CX0 6 f fd ["self"] (spOpp Cs .apart) := by
  refine F.ok sc_oapart (fun vs H Q E h => ?_) (fun cdv A outer s H vs Q E hr h => ?_)
  · obtain ⟨a, args, rfl, _⟩ := h
    rfl
  · obtain ⟨a, args, rfl, ha, q⟩ := h
    obtain ⟨l1, _⟩ := good_args ha.good
    have z1 : args = [] := whole_of (s := .n) l1
    subst z1
    refine ⟨_, pss_one (ps_ret (pe_make00 M (by rfl) mC)), ?_⟩
    exact fun x dx hx hdx ne => q x _ hx ((sameUpd (Same.refl _) hdx).trans (sameUpd (Same.refl _) (by rw [upd_ne ne.symm]; exact hx))) ⟨⟨dx, upd_same⟩, rfl⟩
theorem sc_oleast : FnScope ["self"] ["self"] (defScope sAtLeast_opposite) := ⟨rfl, rfl, rfl, by decide +kernel, rfl, by decide +kernel, by decide +kernel⟩
theorem ok_oleast {f CB fI : Addr} {fd fdI : FuncData} {Cs : Pk → Addr} (F : Fun K "opposite" "AtLeast.opposite" sAtLeast_opposite f fd) (PC : PkC K Cs) (M : MkP P w K mg base "Below" .c (Cs .below) CB fI fdI ["self", "clock", "number"]) : FnOk P w K mg base CX0 6 f fd ["self"] (spOpp Cs .least) := by
  refine F.ok sc_oleast (fun vs H Q E h => ?_) (fun cdv A outer s H vs Q E hr h => ?_)
  · obtain ⟨a, args, rfl, _⟩ := h
    rfl
  · obtain ⟨a, args, rfl, ha, q⟩ := h
    obtain ⟨dx, ea⟩ := ha.ob
    have hg := ha.good
    obtain ⟨l1, _⟩ := good_args hg
    obtain ⟨x1, y1, rfl⟩ := whole_of (s := .c) l1
    refine ⟨_, pss_one (ps_ret (pe_make M.MK M.G hr (by rfl) M.m M.b .nil passL (pa_cons (pe_fld (pv 0) rfl) (pa_cons (pe_fld (pv 0) rfl) pa_nil)))), ?_⟩
    refine ⟨_, rfl, a, _, dx, _, _, rfl, ea, (PC.q _).cl, (PC.q _).no _ (.head _), zip_fst, _, rfl, a, _, dx, _, _, rfl, ea, (PC.q _).cl, (PC.q _).no _ (.tail _ (.head _)), zip_snd s_cn, fun x dx' hx hdx ne => ?_⟩
    have s0 : Same H (upd (upd H dx' (.own x)) x (.ins (Cs .below) dx' [])) := (sameUpd (Same.refl _) hdx).trans (sameUpd (Same.refl _) (by rw [upd_ne ne.symm]; exact hx))
    refine ⟨x, dx', [x1, y1], rfl, rfl, upd_same, good_things hg, ?_⟩
    rw [show Sh.pw .c _ = none from hg]
    exact fun H' kp e => ⟨rfl, q x H' hx (fun b o hb => kp b o (s0 b o hb) (ne_of_none hb hx)) ⟨⟨dx', e⟩, hg⟩⟩
theorem sc_obelow : FnScope ["self"] ["self"] (defScope sBelow_opposite) := ⟨rfl, rfl, rfl, by decide +kernel, rfl, by decide +kernel, by decide +kernel⟩
theorem ok_obelow {f CB fI : Addr} {fd fdI : FuncData} {Cs : Pk → Addr} (F : Fun K "opposite" "Below.opposite" sBelow_opposite f fd) (PC : PkC K Cs) (M : MkP P w K mg base "AtLeast" .c (Cs .least) CB fI fdI ["self", "clock", "number"]) : FnOk P w K mg base CX0 6 f fd ["self"] (spOpp Cs .below) := by
  refine F.ok sc_obelow (fun vs H Q E h => ?_) (fun cdv A outer s H vs Q E hr h => ?_)
  · obtain ⟨a, args, rfl, _⟩ := h
    rfl
  · obtain ⟨a, args, rfl, ha, q⟩ := h
    obtain ⟨dx, ea⟩ := ha.ob
    have hg := ha.good
    obtain ⟨l1, _⟩ := good_args hg
    obtain ⟨x1, y1, rfl⟩ := whole_of (s := .c) l1
    refine ⟨_, pss_one (ps_ret (pe_make M.MK M.G hr (by rfl) M.m M.b .nil passL (pa_cons (pe_fld (pv 0) rfl) (pa_cons (pe_fld (pv 0) rfl) pa_nil)))), ?_⟩
    refine ⟨_, rfl, a, _, dx, _, _, rfl, ea, (PC.q _).cl, (PC.q _).no _ (.head _), zip_fst, _, rfl, a, _, dx, _, _, rfl, ea, (PC.q _).cl, (PC.q _).no _ (.tail _ (.head _)), zip_snd s_cn, fun x dx' hx hdx ne => ?_⟩
    have s0 : Same H (upd (upd H dx' (.own x)) x (.ins (Cs .least) dx' [])) := (sameUpd (Same.refl _) hdx).trans (sameUpd (Same.refl _) (by rw [upd_ne ne.symm]; exact hx))
    refine ⟨x, dx', [x1, y1], rfl, rfl, upd_same, good_things hg, ?_⟩
    rw [show Sh.pw .c _ = none from hg]
    exact fun H' kp e => ⟨rfl, q x H' hx (fun b o hb => kp b o (s0 b o hb) (ne_of_none hb hx)) ⟨⟨dx', e⟩, hg⟩⟩
end
end Kx

set_option maxHeartbeats 4000000
namespace Kx
open PySem L2
/-! what clauses are made of -/
abbrev Pc := Pk × List V
/-- an item: a piece, or another thing -/
inductive ItemIs (Cs : Pk → Addr) (H : Hp) : V → Option Pc → Prop where
  | pc {a : Addr} {p : Pc} (h : PcA Cs H a p.1 p.2) : ItemIs Cs H (.ref a) (some p)
  | oth {x : V} {n : String} (h : Thing H x n) : ItemIs Cs H x none
theorem ItemIs.keep {Cs : Pk → Addr} {H H' : Hp} {x : V} {o : Option Pc} (h : ItemIs Cs H x o) (s : Same H H') : ItemIs Cs H' x o := by
  cases h with
  | pc h => exact .pc (h.keep s)
  | oth h => exact .oth (h.keep s)
/-- what is told as conditions or changes -/
inductive SeqIs (K : PySem.W.Frag) (Cs : Pk → Addr) (H : Hp) : V → Option (List (Option Pc)) → Prop where
  | seq {b : Addr} {xs : List V} {os : List (Option Pc)} (h : IsSeq K H b xs) (t : Paired (ItemIs Cs H) xs os) (l : xs.length ≤ 2000) : SeqIs K Cs H (.ref b) (some os)
  | oth {y : V} {n : String} (h : Kd H y n) (l : seqV n = false) : SeqIs K Cs H y none
  | pc {a : Addr} {p : Pc} (h : PcA Cs H a p.1 p.2) : SeqIs K Cs H (.ref a) none
theorem SeqIs.keep {K : PySem.W.Frag} {Cs : Pk → Addr} {H H' : Hp} {y : V} {r : Option (List (Option Pc))} (h : SeqIs K Cs H y r) (s : Same H H') : SeqIs K Cs H' y r := by
  cases h with
  | seq h t l => exact .seq (h.keep s) (pr_imp t fun _ _ q => q.keep s) l
  | oth h l => exact .oth (h.keep s) l
  | pc h => exact .pc (h.keep s)
/-- the first fault of the conditions, those behind seen and from the i-th on -/
def condScan : List Pc → Nat → List (Option Pc) → Option (Nat × Str)
  | _, _, [] => none
  | _, i, none :: _ => some (i, "condition")
  | seen, i, some p :: os => if p.1.cond then (if decide (p ∈ seen) then some (i, Str.ofString "double") else condScan (seen ++ [p]) (i + 1) os) else some (i, Str.ofString "condition")
def condDue : Option (List (Option Pc)) → Option (Nat × Str)
  | none => some (0, "conditions")
  | some os => if os.length ≤ 6 then condScan [] 0 os else some (0, Str.ofString "conditions")
def argS : List V → Str
  | .str z :: _ => z
  | _ => ""
/-- what a change changes -/
def chg (p : Pc) : Str × Str := match p.1 with
  | .to => ("room", "")
  | .put => ("seat", argS p.2)
  | .zero => ("number", argS p.2)
  | _ => ("running", argS p.2)
def chgScan : List (Str × Str) → Nat → List (Option Pc) → Option (Nat × Str)
  | _, _, [] => none
  | _, i, none :: _ => some (i, "change")
  | seen, i, some p :: os => if p.1.cond then some (i, Str.ofString "change") else (if decide (chg p ∈ seen) then some (i, Str.ofString "twice") else chgScan (seen ++ [chg p]) (i + 1) os)
def chgDue : Option (List (Option Pc)) → Option (Nat × Str)
  | none => some (0, "changes")
  | some os => if os.length ≤ 8 then chgScan [] 0 os else some (0, Str.ofString "changes")
def pcsOf (os : List (Option Pc)) : List Pc := os.filterMap id
theorem condScan_step {os : List (Option Pc)} {seen : List Pc} {i : Nat} {o : Option Pc} (h : os[i]? = some o) : condScan seen i (os.drop i) = match o with
    | none => some (i, Str.ofString "condition")
    | some p => if p.1.cond then (if decide (p ∈ seen) then some (i, Str.ofString "double") else condScan (seen ++ [p]) (i + 1) (os.drop (i + 1))) else some (i, Str.ofString "condition") := by
  obtain ⟨lt, e⟩ := List.getElem?_eq_some_iff.mp h
  rw [List.drop_eq_getElem_cons lt, e]
  cases o <;> rfl
theorem chgScan_step {os : List (Option Pc)} {seen : List (Str × Str)} {i : Nat} {o : Option Pc} (h : os[i]? = some o) : chgScan seen i (os.drop i) = match o with
    | none => some (i, Str.ofString "change")
    | some p => if p.1.cond then some (i, Str.ofString "change") else (if decide (chg p ∈ seen) then some (i, Str.ofString "twice") else chgScan (seen ++ [chg p]) (i + 1) (os.drop (i + 1))) := by
  obtain ⟨lt, e⟩ := List.getElem?_eq_some_iff.mp h
  rw [List.drop_eq_getElem_cons lt, e]
  cases o <;> rfl
theorem condScan_none : ∀ {os : List (Option Pc)} {seen : List Pc} {i : Nat}, condScan seen i os = none → ∃ ps : List Pc, os = ps.map some ∧ (∀ p ∈ ps, p.1.cond = true)
  | [], _, _, _ => ⟨[], rfl, fun _ h => nomatch h⟩
  | none :: _, _, _, h => nomatch h
  | some p :: os, seen, i, h => by
    have h : (if p.1.cond then (if decide (p ∈ seen) then some (i, Str.ofString "double") else condScan (seen ++ [p]) (i + 1) os) else some (i, Str.ofString "condition")) = none := h
    cases e : p.1.cond with
    | false => rw [e] at h; cases h
    | true =>
      rw [e, if_pos rfl] at h
      by_cases e2 : decide (p ∈ seen) = true
      · rw [if_pos e2] at h; cases h
      · rw [if_neg e2] at h
        obtain ⟨ps, rfl, g⟩ := condScan_none h
        refine ⟨p :: ps, rfl, fun q hq => ?_⟩
        rcases List.mem_cons.mp hq with rfl | hq
        · exact e
        · exact g q hq
theorem chgScan_none : ∀ {os : List (Option Pc)} {seen : List (Str × Str)} {i : Nat}, chgScan seen i os = none → ∃ ps : List Pc, os = ps.map some ∧ (∀ p ∈ ps, p.1.cond = false)
  | [], _, _, _ => ⟨[], rfl, fun _ h => nomatch h⟩
  | none :: _, _, _, h => nomatch h
  | some p :: os, seen, i, h => by
    have h : (if p.1.cond then some (i, Str.ofString "change") else (if decide (chg p ∈ seen) then some (i, Str.ofString "twice") else chgScan (seen ++ [chg p]) (i + 1) os)) = none := h
    cases e : p.1.cond with
    | true => rw [e] at h; cases h
    | false =>
      rw [e, if_neg Bool.false_ne_true] at h
      by_cases e2 : decide (chg p ∈ seen) = true
      · rw [if_pos e2] at h; cases h
      · rw [if_neg e2] at h
        obtain ⟨ps, rfl, g⟩ := chgScan_none h
        refine ⟨p :: ps, rfl, fun q hq => ?_⟩
        rcases List.mem_cons.mp hq with rfl | hq
        · exact e
        · exact g q hq
theorem condDue_none {co : Option (List (Option Pc))} (h : condDue co = none) : ∃ ps : List Pc, co = some (ps.map some) ∧ ps.length ≤ 6 ∧ ∀ p ∈ ps, p.1.cond = true := by
  cases co with
  | none => cases h
  | some os =>
    have h : (if os.length ≤ 6 then condScan [] 0 os else some (0, Str.ofString "conditions")) = none := h
    by_cases l : os.length ≤ 6
    · rw [if_pos l] at h
      obtain ⟨ps, rfl, g⟩ := condScan_none h
      exact ⟨ps, rfl, by simpa using l, g⟩
    · rw [if_neg l] at h; cases h
theorem chgDue_none {co : Option (List (Option Pc))} (h : chgDue co = none) : ∃ ps : List Pc, co = some (ps.map some) ∧ ps.length ≤ 8 ∧ ∀ p ∈ ps, p.1.cond = false := by
  cases co with
  | none => cases h
  | some os =>
    have h : (if os.length ≤ 8 then chgScan [] 0 os else some (0, Str.ofString "changes")) = none := h
    by_cases l : os.length ≤ 8
    · rw [if_pos l] at h
      obtain ⟨ps, rfl, g⟩ := chgScan_none h
      exact ⟨ps, rfl, by simpa using l, g⟩
    · rw [if_neg l] at h; cases h
/-- Condition and Change among the classes -/
structure PkB (K : PySem.W.Frag) (mg : Str → Option Value) (Cs : Pk → Addr) (Cc Ch : Addr) : Prop where
  co : ∀ k, PySem.W.kitOne K (.ref (Cs k)) (.ref Cc) = some k.cond
  ch : ∀ k, PySem.W.kitOne K (.ref (Cs k)) (.ref Ch) = some (!k.cond)
  no : ∀ n, n ∈ ["NoneType", "bool", "int", "str", "list", "tuple", "dict"] → PySem.W.kitOne K (.type n) (.ref Cc) = some false
  nh : ∀ n, n ∈ ["NoneType", "bool", "int", "str", "list", "tuple", "dict"] → PySem.W.kitOne K (.type n) (.ref Ch) = some false
  isq : ∀ k, PySem.W.kitAny K (.ref (Cs k)) [.type "list", .type "tuple"] = some false
  mc : mg "Condition" = some (.ref Cc)
  mh : mg "Change" = some (.ref Ch)
/-- whether it is a list or a tuple, also a written one -/
def SeqQ (K : PySem.W.Frag) (H : Hp) (y : V) (b : Bool) : Prop := ∃ t, PySem.W.kitAny K t [.type "list", .type "tuple"] = some b ∧ ∀ H', Same H H' → TyX K H' y t
def spSeqK (K : PySem.W.Frag) : Sp := fun vs H Q _ => ∃ (x : V) (b : Bool), vs = [x] ∧ SeqQ K H x b ∧ ∀ H', Same H H' → Q (.bl b) H'
theorem SeqIs.sq {K : PySem.W.Frag} {mg : Str → Option Value} {Cs : Pk → Addr} {Cc Ch : Addr} {H : Hp} {y : V} {r : Option (List (Option Pc))} (h : SeqIs K Cs H y r) (PC : PkC K Cs) (PB : PkB K mg Cs Cc Ch) : SeqQ K H y r.isSome := by
  cases h with
  | seq h t l => obtain ⟨n, hn, e, ty⟩ := h.ty; exact ⟨_, by rw [kit_seq hn, e]; rfl, ty⟩
  | oth h l => exact ⟨_, by rw [kit_seq h.kits, l]; rfl, fun H' s => (h.keep s).ty⟩
  | pc h => obtain ⟨dx, e⟩ := h.ob; exact ⟨_, PB.isq _, fun H' s => (PC.q _).ty (s _ _ e)⟩
/-- pieces compare as they are made -/
def DPc (Cs : Pk → Addr) : EqvB := fun x y r H => ∃ (a b : Addr) (p q : Pc), x = .ref a ∧ y = .ref b ∧ PcA Cs H a p.1 p.2 ∧ PcA Cs H b q.1 q.2 ∧ r = decide (p = q)
def EqM (P : Program) (w : World) (K : PySem.W.Frag) (mg : Str → Option Value) (base : Heap) (Cs : Pk → Addr) : Prop := ∀ k, ∃ g fd, OwnM P w K mg base (Cs k) "__eq__" 1 ["self", "other"] (spPEq Cs k) g fd
theorem zip_inj {s : Sh} {xs ys : List V} (h : s.pw xs = none) (h' : s.pw ys = none) (e : s.names.zip xs = s.names.zip ys) : xs = ys := by
  have l1 := (good_args h).1
  have l2 := (good_args h').1
  have q1 : (s.names.zip xs).map Prod.snd = xs := by rw [List.map_snd_zip]; omega
  have q2 : (s.names.zip ys).map Prod.snd = ys := by rw [List.map_snd_zip]; omega
  rw [← q1, ← q2, e]
theorem PcA.one {K : PySem.W.Frag} {Cs : Pk → Addr} {H : Hp} {a : Addr} {p q : Pc} (PC : PkC K Cs) (h : PcA Cs H a p.1 p.2) (h' : PcA Cs H a q.1 q.2) : p = q := by
  obtain ⟨dx, e⟩ := h.ob
  obtain ⟨dy, e'⟩ := h'.ob
  have z := e.symm.trans e'
  injection z with z
  injection z with z1 z2 z3
  have ek : p.1 = q.1 := by
    have i1 := PC.isi p.1 q.1
    have i2 := PC.isi q.1 q.1
    rw [z1, i2] at i1
    have := Option.some.inj i1
    rw [decide_eq_true rfl] at this
    exact of_decide_eq_true this.symm
  obtain ⟨k, xs⟩ := p
  obtain ⟨k', ys⟩ := q
  dsimp only at ek
  subst ek
  exact congrArg (Prod.mk k) (zip_inj h.good h'.good z3)
theorem eqB_pc {X : Cx} {Cs : Pk → Addr} (PC : PkC X.K Cs) (M : EqM X.prog X.w X.K X.mg X.base Cs) : EqB X 1 (DPc Cs) := by
  intro A pins s σ H x y r u v sb I rx ry d
  obtain ⟨a, b, p, q, rfl, rfl, ha, hb, rfl⟩ := d
  cases rx
  cases ry
  obtain ⟨dx, ea⟩ := ha.ob
  obtain ⟨dy, eb⟩ := hb.ob
  obtain ⟨g, fd, M⟩ := M p.1
  refine eqB_own M.M.at_ M.M.fn M.raw pass0 (PC.nf _ _) sb I ea eb (fun e => ?_) ⟨a, .ref b, p.2, rfl, ha, .inl ⟨b, q.1, q.2, rfl, hb, ?_, rfl⟩⟩
  · subst e
    exact decide_eq_true (PcA.one PC ha hb)
  · have e : (p.1 = q.1 ∧ p.2 = q.2) ↔ p = q := ⟨fun ⟨e1, e2⟩ => Prod.ext e1 e2, fun e => by rw [e]; exact ⟨rfl, rfl⟩⟩
    rw [decide_eq_decide.mpr e]
def spChg (Cs : Pk → Addr) : Sp := fun vs H Q _ => ∃ (a : Addr) (p : Pc), vs = [.ref a] ∧ PcA Cs H a p.1 p.2 ∧ p.1.cond = false ∧ ∀ c H', H c = none → Same H H' → H' c = some (.tup [.str (chg p).1, .str (chg p).2]) → Q (.ref c) H'
section
variable {P : Program} {w : World} {K : PySem.W.Frag} {mg : Str → Option Value} {base : Heap}
theorem ok_seqK {f : Addr} {fd : FuncData} (F : Fun K "is_sequence" "is_sequence" sSeq f fd) (m : mg "is_sequence" = some (.ref f)) (B : Bm mg) : HasF P w K mg base "is_sequence" 1 ["thing"] (spSeqK K) := by
  refine ⟨f, fd, ?_, m, F.kp, F.binds fun _ _ _ _ _ _ us hl => by obtain ⟨_, rfl⟩ := us1 hl; exact rfl⟩
  refine F.ok scSeq (fun vs H Q E h => ?_) (fun cdv A outer s H vs Q E hr h => ?_)
  · obtain ⟨a, b, rfl, _⟩ := h
    rfl
  · obtain ⟨x, b, rfl, ⟨t0, hb, ht⟩, k⟩ := h
    refine ⟨_, pss_one (ps_ret (pe_callB call_isiT (by rfl) B.isinstance (by decide +kernel) (pa_cons (pv 0) (pa_cons (pe_tup (pa_cons (pe_bltn (v := .ty "list") (by rfl) B.list (by decide +kernel) rfl) (pa_cons (pe_bltn (v := .ty "tuple") (by rfl) B.tuple (by decide +kernel) rfl) pa_nil))) pa_nil)))), ?_⟩
    refine ⟨_, rfl, by decide, fun t ht' => ?_⟩
    have s1 := sameUpd (o := .tup [.ty "list", .ty "tuple"]) (Same.refl H) ht'
    exact ⟨x, t, _, _, _, _, rfl, upd_same, .cons (.ty _) (.cons (.ty _) .nil), ht _ s1, hb, k _ s1⟩
theorem scChangedBy : FnScope ["change"] ["change"] (defScope sChangedBy) := ⟨rfl, rfl, rfl, by decide +kernel, rfl, by decide +kernel, by decide +kernel⟩
theorem lab_arg {k : Pk} {args : List V} (h : k.pw args = none) (n : k.sh ≠ .n) : ∃ z xs, args = .str z :: xs ∧ isLab z = true := by
  obtain ⟨l, g⟩ := good_args h
  cases e : k.sh with
  | n => exact absurd e n
  | r =>
    have h : k.sh.pw args = none := h
    rw [e] at h l
    obtain ⟨x, rfl⟩ := whole_of (s := .r) l
    have h : (if labV x then none else some (Str.ofString "room")) = none := h
    cases q : labV x with
    | false => rw [q] at h; cases h
    | true => obtain ⟨z, rfl, hz⟩ := lab_str q; exact ⟨z, [], rfl, hz⟩
  | k =>
    have h : k.sh.pw args = none := h
    rw [e] at h l
    obtain ⟨x, rfl⟩ := whole_of (s := .k) l
    have h : (if labV x then none else some (Str.ofString "clock")) = none := h
    cases q : labV x with
    | false => rw [q] at h; cases h
    | true => obtain ⟨z, rfl, hz⟩ := lab_str q; exact ⟨z, [], rfl, hz⟩
  | s =>
    have h : k.sh.pw args = none := h
    rw [e] at h l
    obtain ⟨x, y, rfl⟩ := whole_of (s := .s) l
    have h : seatW x y = none := h
    unfold seatW at h
    cases q : seatV x with
    | false => rw [q] at h; cases h
    | true => obtain ⟨z, rfl, hz⟩ := lab_str (seatV_lab q); exact ⟨z, _, rfl, hz⟩
  | c =>
    have h : k.sh.pw args = none := h
    rw [e] at h l
    obtain ⟨x, y, rfl⟩ := whole_of (s := .c) l
    have h : numW x y = none := h
    unfold numW at h
    cases q : labV x with
    | false => rw [q] at h; cases h
    | true => obtain ⟨z, rfl, hz⟩ := lab_str q; exact ⟨z, _, rfl, hz⟩
theorem ok_chgby {f : Addr} {fd : FuncData} {Cs : Pk → Addr} (F : Fun K "_changed_by" "_changed_by" sChangedBy f fd) (m : mg "_changed_by" = some (.ref f)) (B : Bm mg) (PC : PkC K Cs) (m1 : mg "ToRoom" = some (.ref (Cs .to))) (m2 : mg "Put" = some (.ref (Cs .put))) (m3 : mg "Zero" = some (.ref (Cs .zero))) : HasF P w K mg base "_changed_by" 1 ["change"] (spChg Cs) := by
  refine ⟨f, fd, ?_, m, F.kp, F.binds fun _ _ _ _ _ _ us hl => by obtain ⟨_, rfl⟩ := us1 hl; exact rfl⟩
  refine F.ok scChangedBy (fun vs H Q E h => ?_) (fun cdv A outer s H vs Q E hr h => ?_)
  · obtain ⟨a, b, rfl, _⟩ := h
    rfl
  · obtain ⟨a, p, rfl, ha, hc, q⟩ := h
    obtain ⟨dx, ea⟩ := ha.ob
    refine ⟨_, (pss_cons (ps_if (pt_val (pe_callB call_isi (by rfl) B.isinstance (by decide +kernel) (pa_cons (pv 0) (pa_cons (pe_glob (v := .ref (Cs .to)) rfl m1 rfl) pa_nil)))) (pss_one (ps_ret (pe_tup (pa_cons pe_str (pa_cons pe_str pa_nil))))) pss_nil)
    (pss_cons (ps_if (pt_val (pe_callB call_isi (by rfl) B.isinstance (by decide +kernel) (pa_cons (pv 0) (pa_cons (pe_glob (v := .ref (Cs .put)) rfl m2 rfl) pa_nil)))) (pss_one (ps_ret (pe_tup (pa_cons pe_str (pa_cons (pe_fld (pv 0) rfl) pa_nil))))) pss_nil)
    (pss_cons (ps_if (pt_val (pe_callB call_isi (by rfl) B.isinstance (by decide +kernel) (pa_cons (pv 0) (pa_cons (pe_glob (v := .ref (Cs .zero)) rfl m3 rfl) pa_nil)))) (pss_one (ps_ret (pe_tup (pa_cons pe_str (pa_cons (pe_fld (pv 0) rfl) pa_nil))))) pss_nil)
    (pss_one (ps_ret (pe_tup (pa_cons pe_str (pa_cons (pe_fld (pv 0) rfl) pa_nil)))))))), ?_⟩
    refine ⟨_, rfl, _, _, _, _, _, rfl, .own _, (PC.q _).ty ea, PC.isi p.1 .to, _, rfl, ?_⟩
    obtain ⟨k, args⟩ := p
    have fin : ∀ {u v : Str}, chg (k, args) = (u, v) → 2 ≤ sizeLine ∧ ∀ c, H c = none → Q (.ref c) (upd H c (.tup [.str u, .str v])) := fun e => ⟨by decide, fun c hc' => q c _ hc' (sameUpd (Same.refl _) hc') (by rw [e]; exact upd_same)⟩
    cases k with
    | to => exact iteT (fin rfl)
    | put =>
      obtain ⟨z, xs, rfl, hz⟩ := lab_arg (k := .put) ha.good (by decide)
      refine iteF ⟨_, rfl, _, _, _, _, _, rfl, .own _, (PC.q _).ty ea, PC.isi _ .put, _, rfl, iteT ?_⟩
      exact ⟨_, rfl, a, _, dx, _, _, rfl, ea, (PC.q .put).cl, (PC.q .put).no _ (.head _), zip_fst, fin rfl⟩
    | zero =>
      obtain ⟨z, xs, rfl, hz⟩ := lab_arg (k := .zero) ha.good (by decide)
      refine iteF ⟨_, rfl, _, _, _, _, _, rfl, .own _, (PC.q _).ty ea, PC.isi _ .put, _, rfl, iteF ?_⟩
      refine ⟨_, rfl, _, _, _, _, _, rfl, .own _, (PC.q _).ty ea, PC.isi _ .zero, _, rfl, iteT ?_⟩
      exact ⟨_, rfl, a, _, dx, _, _, rfl, ea, (PC.q .zero).cl, (PC.q .zero).no _ (.head _), zip_fst, fin rfl⟩
    | run =>
      obtain ⟨z, xs, rfl, hz⟩ := lab_arg (k := .run) ha.good (by decide)
      refine iteF ⟨_, rfl, _, _, _, _, _, rfl, .own _, (PC.q _).ty ea, PC.isi _ .put, _, rfl, iteF ?_⟩
      refine ⟨_, rfl, _, _, _, _, _, rfl, .own _, (PC.q _).ty ea, PC.isi _ .zero, _, rfl, iteF ?_⟩
      exact ⟨_, rfl, a, _, dx, _, _, rfl, ea, (PC.q .run).cl, (PC.q .run).no _ (.head _), zip_fst, fin rfl⟩
    | halt =>
      obtain ⟨z, xs, rfl, hz⟩ := lab_arg (k := .halt) ha.good (by decide)
      refine iteF ⟨_, rfl, _, _, _, _, _, rfl, .own _, (PC.q _).ty ea, PC.isi _ .put, _, rfl, iteF ?_⟩
      refine ⟨_, rfl, _, _, _, _, _, rfl, .own _, (PC.q _).ty ea, PC.isi _ .zero, _, rfl, iteF ?_⟩
      exact ⟨_, rfl, a, _, dx, _, _, rfl, ea, (PC.q .halt).cl, (PC.q .halt).no _ (.head _), zip_fst, fin rfl⟩
    | _ => cases hc
end
end Kx

set_option maxHeartbeats 8000000
namespace Kx
open PySem L2
def clF (i : Nat) (w : Str) : List (Str × V) := [("what", .str w), ("index", .int i)]
/-- a check: nothing, or an index and a word -/
def spChk (K : PySem.W.Frag) (Cs : Pk → Addr) (CB : Addr) (due : Option (List (Option Pc)) → Option (Nat × Str)) : Sp := fun vs H Q E => ∃ (y : V) (r : Option (List (Option Pc))), vs = [y] ∧ SeqIs K Cs H y r ∧
  match due r with
  | none => ∀ H', Same H H' → Q .non H'
  | some (i, w) => ∀ d H', H d = none → Same H H' → H' d = some (.xd (clF i w)) → E (.ref CB) (some d) H'
def chD (c : Str × Str) : PyData := .tuple [.str c.1, .str c.2]
theorem eqv_ch (a b : Str × Str) : PyData.eqv (chD a) (chD b) = decide (a = b) := by
  obtain ⟨a, a'⟩ := a
  obtain ⟨b, b'⟩ := b
  show (PyData.eqv (.str a) (.str b) && (PyData.eqv (.str a') (.str b') && true)) = _
  rw [eqv_str, eqv_str]
  by_cases h1 : a = b <;> by_cases h2 : a' = b' <;> simp [h1, h2]
theorem chg_ok {p : Pc} (h : p.1.pw p.2 = none) : PyData.strOk (chg p).1 = true ∧ PyData.strOk (chg p).2 = true := by
  have ar : PyData.strOk (argS p.2) = true := by
    unfold argS
    split
    · rename_i z xs e
      obtain ⟨_, g⟩ := good_args h
      rcases g (.str z) (by rw [e]; exact .head _) with ⟨u, e2, hu⟩ | ⟨i, e2, _⟩
      · cases e2
        exact lab_fine hu
      · cases e2
    · decide +kernel
  unfold chg
  split
  · exact ⟨by decide +kernel, by decide +kernel⟩
  · exact ⟨(show PyData.strOk (Str.ofString "seat") = true by decide +kernel), ar⟩
  · exact ⟨(show PyData.strOk (Str.ofString "number") = true by decide +kernel), ar⟩
  · exact ⟨(show PyData.strOk (Str.ofString "running") = true by decide +kernel), ar⟩
theorem lay_ch {c : Str × Str} (h : PyData.strOk c.1 = true ∧ PyData.strOk c.2 = true) : PyData.canLay0 (chD c) = true ∧ PyData.depth (chD c) ≤ 1 := by
  refine ⟨?_, by show max 0 (max 0 0) + 1 ≤ 1; decide⟩
  show (PyData.canLay0 (.str c.1) && (PyData.canLay0 (.str c.2) && true)) = true
  rw [show PyData.canLay0 (.str c.1) = true from h.1, show PyData.canLay0 (.str c.2) = true from h.2]
  rfl
theorem any_ch (c : Str × Str) : ∀ cs : List (Str × Str), ((cs.map chD).any fun z => PyData.eqv z (chD c)) = decide (c ∈ cs)
  | [] => by simp
  | a :: cs => by
    rw [List.map_cons, List.any_cons, eqv_ch, any_ch c cs]
    by_cases h : a = c
    · simp [h]
    · simp [h, Ne.symm h]
theorem any_range (c : Pc) (ps : List Pc) : ((List.range ps.length).any fun i => decide (ps[i]? = some c)) = decide (c ∈ ps) := by
  by_cases h : c ∈ ps
  · obtain ⟨i, hi⟩ := List.mem_iff_getElem?.mp h
    rw [decide_eq_true h]
    exact List.any_eq_true.mpr ⟨i, List.mem_range.mpr (List.getElem?_eq_some_iff.mp hi).1, decide_eq_true hi⟩
  · rw [decide_eq_false h]
    refine List.any_eq_false.mpr fun i _ => ?_
    rw [decide_eq_true_eq]
    intro e
    exact h (List.mem_iff_getElem?.mpr ⟨i, e⟩)
/-- pieces among the items -/
theorem items_pcs {Cs : Pk → Addr} {H : Hp} {xs : List V} {ps : List Pc} (h : Paired (ItemIs Cs H) xs (ps.map some)) {i : Nat} {x : V} (e : xs[i]? = some x) : ∃ a p, x = .ref a ∧ ps[i]? = some p ∧ PcA Cs H a p.1 p.2 := by
  induction ps generalizing xs i with
  | nil => cases h; cases e
  | cons p ps ih =>
    cases h with
    | cons h t =>
      cases i with
      | zero =>
        cases e
        cases h with
        | pc h => exact ⟨_, p, rfl, rfl, h⟩
      | succ i => exact ih t e
theorem take_paired {α β : Type} {F : α → β → Prop} {xs : List α} {ys : List β} (h : Paired F xs ys) (n : Nat) : Paired F (xs.take n) (ys.take n) := by
  induction h generalizing n with
  | nil => rw [List.take_nil, List.take_nil]; exact .nil
  | cons h t ih =>
    cases n with
    | zero => exact .nil
    | succ n => exact .cons h (ih n)
theorem Paired.at {α β : Type} {F : α → β → Prop} {xs : List α} {ys : List β} (h : Paired F xs ys) : ∀ {i : Nat} {x : α}, xs[i]? = some x → ∃ y, ys[i]? = some y ∧ F x y := by
  induction h with
  | nil => intro i x e; cases e
  | cons h t ih =>
    intro i x e
    cases i with
    | zero => cases e; exact ⟨_, rfl, h⟩
    | succ i => exact ih e
section
variable {P : Program} {w : World} {K : PySem.W.Frag} {mg : Str → Option Value} {base : Heap}
theorem scChkCo : FnScope ["conditions", "index", "condition"] ["conditions"] (defScope sCheckConditions) := ⟨rfl, rfl, rfl, by decide +kernel, rfl, by decide +kernel, by decide +kernel⟩
theorem ok_chkco {f CB fB Cc Ch : Addr} {fd fdB : FuncData} {Cs : Pk → Addr} (F : Fun K "_check_conditions" "_check_conditions" sCheckConditions f fd) (m : mg "_check_conditions" = some (.ref f)) (T : Bl mg) (B : Bm mg) (N : Ns8 K mg) (PC : PkC K Cs) (PB : PkB K mg Cs Cc Ch) (EM : EqM P w K mg base Cs) (Sq : HasF P w K mg base "is_sequence" 1 ["thing"] (spSeqK K))
    (EB : ErC P w K mg base "BadClause" ["self", "index", "what"] CB fB fdB (spInit2 K CB "index" "what")) (n1 : PySem.W.findIn K (.ref CB) "index" = some none) (n2 : PySem.W.findIn K (.ref CB) "what" = some none) :
    ∃ f fd, mg "_check_conditions" = some (.ref f) ∧ PySem.W.keepIn K (.ref f) = true ∧ Binds K fd ["conditions"] [] ∧ FnOk P w K mg base (L2.CX P w) 3 f fd ["conditions"] (spChk K Cs CB condDue) := by
  refine ⟨f, fd, m, F.kp, F.binds fun _ _ _ _ _ _ us hl => by obtain ⟨_, rfl⟩ := us1 hl; exact rfl, ?_⟩
  obtain ⟨f1, fd1, Sq⟩ := Sq
  obtain ⟨t1, mM⟩ := N.2.2.1
  refine F.okX scChkCo (fun vs H Q E h => ?_) (fun cdv A outer s H vs Q E hr h => ?_)
  · obtain ⟨y, r, rfl, _⟩ := h
    rfl
  · obtain ⟨y, r, rfl, hy, k⟩ := h
    have hr1 : Room 1 _ := hr.mono (by decide)
    refine ⟨_, (C8.pss_cut (ps_if (PW.pt (pw_or (pt_not (pt_val (pe_call Sq.G hr1 (by rfl) Sq.m Sq.kp Sq.b .nil pass0 (pa_cons (pv 0) pa_nil)))) (pw_or1 (pt_cmpR op_gt (pe_callB call_len_seq (by rfl) T.len PySem.boot_len (pa_cons (pv 0) pa_nil)) (pe_glob (v := .int 6) rfl mM ⟨_, rfl⟩) (nomark _))))) (pss_one (ps_raise rfl (takes_of rfl rfl rfl rfl) (pmk_oex EB.T EB.iC EB.tI EB.G hr EB.b .nil pass0 (by rfl) EB.gC (pa_cons pe_int (pa_cons pe_str pa_nil))))) pss_nil)
    (pss_one (ps_for (passes_of rfl) rfl (pi_enumB (by rfl) T.enumerate (pa_cons (pv 0) pa_nil)) (pg_tup rfl (pgs_cons (pg_name (i := 1) scChkCo.nd rfl (Or.inl rfl)) (pgs_cons (pg_name (i := 2) scChkCo.nd rfl (Or.inl rfl)) pgs_nil)))
        (pss_cons (ps_if (pt_not (pt_val (pe_callB call_isi (by rfl) B.isinstance (by decide +kernel) (pa_cons (pv 2) (pa_cons (pe_glob (v := .ref Cc) rfl PB.mc rfl) pa_nil))))) (pss_one (ps_raise rfl (takes_of rfl rfl rfl rfl) (pmk_oex EB.T EB.iC EB.tI EB.G hr EB.b .nil pass0 (by rfl) EB.gC (pa_cons (pv 1) (pa_cons pe_str pa_nil))))) pss_nil)
    (pss_one (ps_if (pt_cmpR (op_inB (eqB_pc (Cs := Cs) PC EM) hr) (pv 2) (pe_slice (SlR.or sl_list sl_tupA) (pv 0) po_none (po_some (pv 1))) (by rfl)) (pss_one (ps_raise rfl (takes_of rfl rfl rfl rfl) (pmk_oex EB.T EB.iC EB.tI EB.G hr EB.b .nil pass0 (by rfl) EB.gC (pa_cons (pv 1) (pa_cons pe_str pa_nil))))) pss_nil)))))), ?_⟩
    refine ⟨fun σ H1 => ∃ (b : Addr) (xs : List V) (os : List (Option Pc)), y = .ref b ∧ r = some os ∧ σ = [some (.ref b), none, none] ∧ Same H H1 ∧ IsSeq K H b xs ∧ Paired (ItemIs Cs H) xs os ∧ os.length ≤ 6, ?_, ?_⟩
    · have bad : condDue r = some (0, Str.ofString "conditions") → ∀ H', Same H H' → [V.int 0, V.str "conditions"].length ≤ 1000 ∧ ∀ a, H' a = none → spInit2 K CB "index" "what" (.ref a :: ([V.int 0, V.str "conditions"] ++ [])) (upd H' a (exo a CB none)) (fun v H2 => v = .non ∧ ∃ (d : Addr) (fs : List (Str × V)), H2 a = some (exo a CB (some d)) ∧ H2 d = some (exd d fs) ∧ H' d = none ∧ E (.ref CB) (some d) (upd (del H2 a) d (.xd fs))) (fun _ _ _ => False) := fun e H' s => by
        rw [e] at k
        exact fin2 EB.T n1 n2 fun d H2 hd s2 e2 => k d H2 (s.free hd) (s.trans s2) e2
      refine ⟨_, rfl, y, _, rfl, hy.sq PC PB, fun H1 s1 => ⟨_, rfl, ?_⟩⟩
      cases hy with
      | oth h l => exact iteT (bad rfl _ s1)
      | pc h => exact iteT (bad rfl _ s1)
      | seq h t l =>
        rename_i b xs os
        have al := Paired.length t
        refine iteF ⟨_, rfl, b, xs, rfl, (h.keep s1).sq, _, _, rfl, rfl, _, rfl, ?_⟩
        refine ite2 (fun h1 => ?_) (fun h1 => ?_)
        · have h1 : (6 : Int) < (xs.length : Nat) := of_decide_eq_true h1
          exact bad (by show (if _ then _ else _) = _; rw [if_neg (by omega)]) _ s1
        · have h1 : ¬ (6 : Int) < (xs.length : Nat) := fun e => h1 (decide_eq_true e)
          exact ⟨b, xs, os, rfl, rfl, rfl, s1, h, t, by omega⟩
    rintro σ H1 ⟨b, xs, os, rfl, rfl, rfl, s1, hb, al, l6⟩
    have due : condDue (some os) = condScan [] 0 os := if_pos l6
    rw [due] at k
    have ll := Paired.length al
    refine ⟨_, rfl, b, xs, rfl, ?_⟩
    refine for_enumB (K := K) (a := b) (xs := xs) (fun i σ H2 => ∃ (v1 v2 : Option V) (ps : List Pc), σ = [some (.ref b), v1, v2] ∧ Same H H2 ∧ os.take i = ps.map some ∧ ps.length = i ∧ condScan [] 0 os = condScan ps i (os.drop i))
      ⟨none, none, [], rfl, s1, rfl, rfl, rfl⟩ ?_ ?_ ?_
    · rcases hb.both with q | q
      · exact .inl fun i σ H2 ⟨_, _, _, _, s, _⟩ => q _ s
      · exact .inr fun i σ H2 ⟨_, _, _, _, s, _⟩ => q _ s
    · rintro i x σ H2 t hi ⟨v1, v2, ps, rfl, s2, tk, pl, sc⟩ ht
      have lt : i < xs.length := (List.getElem?_eq_some_iff.mp hi).1
      obtain ⟨o, ho, hx⟩ := Paired.at al hi
      have s3 : Same H (upd H2 t (.tup [.int (i : Nat), x])) := sameUpd s2 ht
      have hx3 := hx.keep s3
      rw [condScan_step ho] at sc
      refine ⟨t, _, rfl, SqT.of upd_same, rfl, _, _, rfl, _, _, rfl, rfl, ?_⟩
      cases hx3 with
      | oth tx =>
        have sc : condScan [] 0 os = some (i, Str.ofString "condition") := sc
        rw [sc] at k
        refine ⟨_, rfl, _, _, _, _, _, rfl, .own _, tx.kd.ty, PB.no _ tx.kd.kits, _, rfl, iteT ?_⟩
        exact ⟨_, rfl, fin2 EB.T n1 n2 fun d H4 hd s4 e4 => k d H4 (s3.free hd) (s3.trans s4) e4⟩
      | pc h =>
        rename_i a p
        obtain ⟨dx, ea⟩ := h.ob
        refine ⟨_, rfl, _, _, _, _, _, rfl, .own _, (PC.q _).ty ea, PB.co _, _, rfl, ?_⟩
        cases hc : p.1.cond with
        | false =>
          have sc : condScan [] 0 os = some (i, Str.ofString "condition") := sc.trans (by show (if p.1.cond = true then _ else _) = _; rw [hc]; rfl)
          rw [sc] at k
          exact iteT ⟨_, rfl, fin2 EB.T n1 n2 fun d H4 hd s4 e4 => k d H4 (s3.free hd) (s3.trans s4) e4⟩
        | true =>
          have sc : condScan [] 0 os = if decide (p ∈ ps) then some (i, Str.ofString "double") else condScan (ps ++ [p]) (i + 1) (os.drop (i + 1)) := sc.trans (by show (if p.1.cond = true then _ else _) = _; rw [hc]; rfl)
          refine iteF ⟨_, rfl, _, rfl, _, rfl, ?_⟩
          have pr : Paired (ItemIs Cs H) (xs.take i) (ps.map some) := by rw [← tk]; exact take_paired al i
          have fin : ∀ (z : Addr) (H4 : Hp) (Q' : VK), Same H H4 → (SqL K H4 z (xs.take i) ∨ SqT K H4 z (xs.take i)) → PcA Cs H4 a p.1 p.2 → Q' (.bl (decide (p ∈ ps))) H4 → rInB K (DPc Cs) (.ref a) (.ref z) H4 Q' := fun z H4 Q' s4 hz hp q => by
            refine ⟨z, xs.take i, fun j => decide (ps[j]? = some p), rfl, hz, fun j y hj => ?_, ?_⟩
            · obtain ⟨a', p', rfl, e1, h1⟩ := items_pcs pr hj
              exact ⟨a', a, p', p, rfl, rfl, h1.keep s4, hp, by show decide (ps[j]? = some p) = _; rw [e1]; exact decide_eq_decide.mpr ⟨fun e => Option.some.inj e, fun e => by rw [e]⟩⟩
            · rw [show (xs.take i).length = ps.length by rw [Paired.length pr, List.length_map], any_range p ps]
              exact q
          have up : ∀ {z : Addr} {u : HO}, upd H2 t (.tup [.int (i : Nat), .ref a]) z = none → Same (upd H2 t (.tup [.int (i : Nat), .ref a])) (upd (upd H2 t (.tup [.int (i : Nat), .ref a])) z u) := fun hz => sameUpd (Same.refl _) hz
          have cut := cut_take xs i (by omega)
          have nw : ¬ (HT.sIx xs.length 0 none = 0 ∧ HT.sIx xs.length xs.length (some ((i : Nat) : Int)) = xs.length) := fun e => by
            have e2 : HT.sIx xs.length xs.length (some ((i : Nat) : Int)) = i := by
              simp [HT.sIx]
              rw [if_neg (by omega)]
              omega
            have := e.2
            omega
          have nxt : ∀ (H4 : Hp) (G : Prop) (G2 : Hp → Prop), Same H H4 → ((∃ ps' : List Pc, Same H H4 ∧ os.take (i + 1) = ps'.map some ∧ ps'.length = i + 1 ∧ condScan [] 0 os = condScan ps' (i + 1) (os.drop (i + 1))) → G) → (condScan [] 0 os = some (i, Str.ofString "double") → G2 H4) → if decide (p ∈ ps) = true then G2 H4 else G := fun H4 G G2 s4 g1 g2 => by
            refine ite2 (fun hd => ?_) (fun hd => ?_)
            · rw [if_pos hd] at sc
              exact g2 sc
            · rw [if_neg hd] at sc
              refine g1 ⟨ps ++ [p], s4, ?_, by simp [pl], sc⟩
              rw [List.take_add_one, ho, tk, List.map_append]
              rfl
          refine ⟨_, rfl, ?_⟩
          rcases hb.both with q | q
          · refine .inl ⟨b, xs, rfl, q _ s3, fun z hz => ?_⟩
            rw [cut]
            refine fin z _ _ (s3.trans (up hz)) (.inl (SqL.of upd_same)) (h.keep (up hz)) ⟨_, rfl, ?_⟩
            refine nxt _ _ (fun _ => _) (s3.trans (up hz)) (fun ⟨ps', a1, a2, a3, a4⟩ => ⟨_, _, ps', rfl, a1, a2, a3, a4⟩) fun sc => ?_
            rw [sc] at k
            exact ⟨_, rfl, fin2 EB.T n1 n2 fun d H5 hd s5 e5 => k d H5 ((s3.trans (up hz)).free hd) ((s3.trans (up hz)).trans s5) e5⟩
          · refine .inr ⟨b, xs, rfl, q _ s3, fun e => absurd e nw, fun _ z hz => ?_⟩
            rw [cut]
            refine fin z _ _ (s3.trans (up hz)) (.inr (SqT.of upd_same)) (h.keep (up hz)) ⟨_, rfl, ?_⟩
            refine nxt _ _ (fun _ => _) (s3.trans (up hz)) (fun ⟨ps', a1, a2, a3, a4⟩ => ⟨_, _, ps', rfl, a1, a2, a3, a4⟩) fun sc => ?_
            rw [sc] at k
            exact ⟨_, rfl, fin2 EB.T n1 n2 fun d H5 hd s5 e5 => k d H5 ((s3.trans (up hz)).free hd) ((s3.trans (up hz)).trans s5) e5⟩
    · rintro σ H2 ⟨v1, v2, ps, rfl, s2, tk, pl, sc⟩
      rw [show condScan ps xs.length (os.drop xs.length) = none by rw [List.drop_of_length_le (by omega)]; rfl] at sc
      rw [sc] at k
      exact k _ s2
end
end Kx

set_option maxHeartbeats 8000000
namespace Kx
open PySem L2
/-- a pair of texts -/
def ChT (N : Hp) (y : V) (q : Str × Str) : Prop := ∃ a, y = .ref a ∧ N a = some (.tup [.str q.1, .str q.2])
theorem ChT.keep {H H' : Hp} {y : V} {q : Str × Str} (h : ChT H y q) (s : Same H H') : ChT H' y q := by
  obtain ⟨a, e, h⟩ := h
  exact ⟨a, e, s _ _ h⟩
theorem ChT.dp {K : PySem.W.Frag} {H : Hp} {y : V} {q : Str × Str} (h : ChT H y q) : Dp K H y (chD q) := by
  obtain ⟨a, rfl, h⟩ := h
  exact .tup (SqT.of h) (.cons (.str _) (.cons (.str _) .nil))
theorem shaped_ch {q : Str × Str} (h : PyData.strOk q.1 = true ∧ PyData.strOk q.2 = true) : SeqAt.shaped (chD q) = true := by
  obtain ⟨a, b⟩ := lay_ch h
  unfold SeqAt.shaped
  rw [Bool.and_eq_true]
  exact ⟨a, decide_eq_true (by omega)⟩
theorem shaped_chs {cs : List (Str × Str)} (h : ∀ q ∈ cs, PyData.strOk q.1 = true ∧ PyData.strOk q.2 = true) : SeqAt.shaped (.list (cs.map chD)) = true := by
  obtain ⟨a, b⟩ := lay_map (f := chD) (n := 1) (xs := cs) fun q m => lay_ch (h q m)
  unfold SeqAt.shaped
  rw [Bool.and_eq_true]
  exact ⟨a, decide_eq_true (by show PyData.depthAll (cs.map chD) + 1 ≤ 64; omega)⟩
theorem paired_app {α β : Type} {F : α → β → Prop} {xs : List α} {ys : List β} {x : α} {y : β} (h : Paired F xs ys) (e : F x y) : Paired F (xs ++ [x]) (ys ++ [y]) := by
  induction h with
  | nil => exact .cons e .nil
  | cons h t ih => exact .cons h ih
theorem hu65 {k : Nat} {A : Around} (r : Room k A) : A.units + 65 < cLine := by have := r.un; omega
section
variable {P : Program} {w : World} {K : PySem.W.Frag} {mg : Str → Option Value} {base : Heap}
theorem scChkCh : FnScope ["changes", "changed", "index", "change"] ["changes"] (defScope sCheckChanges) := ⟨rfl, rfl, rfl, by decide +kernel, rfl, by decide +kernel, by decide +kernel⟩
theorem ok_chkch {f CB fB Cc Ch : Addr} {fd fdB : FuncData} {Cs : Pk → Addr} (F : Fun K "_check_changes" "_check_changes" sCheckChanges f fd) (m : mg "_check_changes" = some (.ref f)) (T : Bl mg) (B : Bm mg) (N : Ns8 K mg) (PC : PkC K Cs) (PB : PkB K mg Cs Cc Ch) (Cg : HasF P w K mg base "_changed_by" 1 ["change"] (spChg Cs)) (Sq : HasF P w K mg base "is_sequence" 1 ["thing"] (spSeqK K))
    (EB : ErC P w K mg base "BadClause" ["self", "index", "what"] CB fB fdB (spInit2 K CB "index" "what")) (n1 : PySem.W.findIn K (.ref CB) "index" = some none) (n2 : PySem.W.findIn K (.ref CB) "what" = some none) :
    ∃ f fd, mg "_check_changes" = some (.ref f) ∧ PySem.W.keepIn K (.ref f) = true ∧ Binds K fd ["changes"] [] ∧ FnOk P w K mg base (L2.CX P w) 3 f fd ["changes"] (spChk K Cs CB chgDue) := by
  refine ⟨f, fd, m, F.kp, F.binds fun _ _ _ _ _ _ us hl => by obtain ⟨_, rfl⟩ := us1 hl; exact rfl, ?_⟩
  obtain ⟨f1, fd1, Sq⟩ := Sq; obtain ⟨f2, fd2, Cg⟩ := Cg
  obtain ⟨t1, mM⟩ := N.2.2.2
  refine F.okX scChkCh (fun vs H Q E h => ?_) (fun cdv A outer s H vs Q E hr h => ?_)
  · obtain ⟨y, r, rfl, _⟩ := h
    rfl
  · obtain ⟨y, r, rfl, hy, k⟩ := h
    have hr1 : Room 1 _ := hr.mono (by decide)
    have hu := hu65 hr
    refine ⟨_, (C8.pss_cut (ps_if (PW.pt (pw_or (pt_not (pt_val (pe_call Sq.G hr1 (by rfl) Sq.m Sq.kp Sq.b .nil pass0 (pa_cons (pv 0) pa_nil)))) (pw_or1 (pt_cmpR op_gt (pe_callB call_len_seq (by rfl) T.len PySem.boot_len (pa_cons (pv 0) pa_nil)) (pe_glob (v := .int 8) rfl mM ⟨_, rfl⟩) (nomark _))))) (pss_one (ps_raise rfl (takes_of rfl rfl rfl rfl) (pmk_oex EB.T EB.iC EB.tI EB.G hr EB.b .nil pass0 (by rfl) EB.gC (pa_cons pe_int (pa_cons pe_str pa_nil))))) pss_nil)
    (pss_cons (ps_set (i := 1) scChkCh.nd rfl (Or.inl rfl) (pe_lst pa_nil))
    (pss_one (ps_for (passes_of rfl) rfl (pi_enumB (by rfl) T.enumerate (pa_cons (pv 0) pa_nil)) (pg_tup rfl (pgs_cons (pg_name (i := 2) scChkCh.nd rfl (Or.inl rfl)) (pgs_cons (pg_name (i := 3) scChkCh.nd rfl (Or.inl rfl)) pgs_nil)))
        (pss_cons (ps_if (pt_not (pt_val (pe_callB call_isi (by rfl) B.isinstance (by decide +kernel) (pa_cons (pv 3) (pa_cons (pe_glob (v := .ref Ch) rfl PB.mh rfl) pa_nil))))) (pss_one (ps_raise rfl (takes_of rfl rfl rfl rfl) (pmk_oex EB.T EB.iC EB.tI EB.G hr EB.b .nil pass0 (by rfl) EB.gC (pa_cons (pv 2) (pa_cons pe_str pa_nil))))) pss_nil)
    (pss_cons (ps_if (pt_cmpR (op_inD hu) (pe_call Cg.G hr1 (by rfl) Cg.m Cg.kp Cg.b .nil pass0 (pa_cons (pv 3) pa_nil)) (pv 1) (by rfl)) (pss_one (ps_raise rfl (takes_of rfl rfl rfl rfl) (pmk_oex EB.T EB.iC EB.tI EB.G hr EB.b .nil pass0 (by rfl) EB.gC (pa_cons (pv 2) (pa_cons pe_str pa_nil))))) pss_nil)
    (pss_one (ps_expr (pe_bm PySem.F.plainAttrs_list PySem.F.slot_list_append PySem.F.type_list_append mt_append (pv 1) (pa_cons (pe_call Cg.G hr1 (by rfl) Cg.m Cg.kp Cg.b .nil pass0 (pa_cons (pv 3) pa_nil)) pa_nil)))))))))), ?_⟩
    refine ⟨fun σ H1 => ∃ (b : Addr) (xs : List V) (os : List (Option Pc)), y = .ref b ∧ r = some os ∧ σ = [some (.ref b), none, none, none] ∧ Same H H1 ∧ IsSeq K H b xs ∧ Paired (ItemIs Cs H) xs os ∧ os.length ≤ 8, ?_, ?_⟩
    · have bad : chgDue r = some (0, Str.ofString "changes") → ∀ H', Same H H' → [V.int 0, V.str "changes"].length ≤ 1000 ∧ ∀ a, H' a = none → spInit2 K CB "index" "what" (.ref a :: ([V.int 0, V.str "changes"] ++ [])) (upd H' a (exo a CB none)) (fun v H2 => v = .non ∧ ∃ (d : Addr) (fs : List (Str × V)), H2 a = some (exo a CB (some d)) ∧ H2 d = some (exd d fs) ∧ H' d = none ∧ E (.ref CB) (some d) (upd (del H2 a) d (.xd fs))) (fun _ _ _ => False) := fun e H' s => by
        rw [e] at k
        exact fin2 EB.T n1 n2 fun d H2 hd s2 e2 => k d H2 (s.free hd) (s.trans s2) e2
      refine ⟨_, rfl, y, _, rfl, hy.sq PC PB, fun H1 s1 => ⟨_, rfl, ?_⟩⟩
      cases hy with
      | oth h l => exact iteT (bad rfl _ s1)
      | pc h => exact iteT (bad rfl _ s1)
      | seq h t l =>
        rename_i b xs os
        have al := Paired.length t
        refine iteF ⟨_, rfl, b, xs, rfl, (h.keep s1).sq, _, _, rfl, rfl, _, rfl, ?_⟩
        refine ite2 (fun h1 => ?_) (fun h1 => ?_)
        · have h1 : (8 : Int) < (xs.length : Nat) := of_decide_eq_true h1
          exact bad (by show (if _ then _ else _) = _; rw [if_neg (by omega)]) _ s1
        · have h1 : ¬ (8 : Int) < (xs.length : Nat) := fun e => h1 (decide_eq_true e)
          exact ⟨b, xs, os, rfl, rfl, rfl, s1, h, t, by omega⟩
    rintro σ H1 ⟨b, xs, os, rfl, rfl, rfl, s1, hb, al, l8⟩
    have due : chgDue (some os) = chgScan [] 0 os := if_pos l8
    rw [due] at k
    have ll := Paired.length al
    refine ⟨Nat.zero_le _, fun c hc => ?_⟩
    have c0 : H c = none := s1.free hc
    refine ⟨_, rfl, b, xs, rfl, ?_⟩
    refine for_enumB (K := K) (a := b) (xs := xs) (fun i σ H2 => ∃ (v1 v2 : Option V) (cs : List (Str × Str)) (ys : List V), σ = [some (.ref b), some (.ref c), v1, v2] ∧ Same H H2 ∧ H2 c = some (.lst ys) ∧ Paired (ChT (wo c H2)) ys cs ∧ (∀ q ∈ cs, PyData.strOk q.1 = true ∧ PyData.strOk q.2 = true) ∧ cs.length = i ∧ chgScan [] 0 os = chgScan cs i (os.drop i))
      ⟨none, none, [], [], rfl, sameUpd s1 hc, upd_same, .nil, (fun q h => nomatch h), rfl, rfl⟩ ?_ ?_ ?_
    · rcases hb.both with q | q
      · exact .inl fun i σ H2 ⟨_, _, _, _, _, s, _⟩ => q _ s
      · exact .inr fun i σ H2 ⟨_, _, _, _, _, s, _⟩ => q _ s
    · rintro i x σ H2 t hi ⟨v1, v2, cs, ys, rfl, s2, hcy, pr, ok, cl, sc⟩ ht
      have lt : i < xs.length := (List.getElem?_eq_some_iff.mp hi).1
      obtain ⟨o, ho, hx⟩ := Paired.at al hi
      have sT : Same H2 (upd H2 t (.tup [.int (i : Nat), x])) := sameUpd (Same.refl _) ht
      have s3 : Same H (upd H2 t (.tup [.int (i : Nat), x])) := s2.trans sT
      have hx3 := hx.keep s3
      rw [chgScan_step ho] at sc
      refine ⟨t, _, rfl, SqT.of upd_same, rfl, _, _, rfl, _, _, rfl, rfl, ?_⟩
      cases hx3 with
      | oth tx =>
        have sc : chgScan [] 0 os = some (i, Str.ofString "change") := sc
        rw [sc] at k
        refine ⟨_, rfl, _, _, _, _, _, rfl, .own _, tx.kd.ty, PB.nh _ tx.kd.kits, _, rfl, iteT ?_⟩
        exact ⟨_, rfl, fin2 EB.T n1 n2 fun d H4 hd s4 e4 => k d H4 (s3.free hd) (s3.trans s4) e4⟩
      | pc h =>
        rename_i a p
        obtain ⟨dx, ea⟩ := h.ob
        refine ⟨_, rfl, _, _, _, _, _, rfl, .own _, (PC.q _).ty ea, PB.ch _, _, rfl, ?_⟩
        cases hcd : p.1.cond with
        | true =>
          have sc : chgScan [] 0 os = some (i, Str.ofString "change") := sc.trans (by show (if p.1.cond = true then _ else _) = _; rw [hcd]; rfl)
          rw [sc] at k
          exact iteT ⟨_, rfl, fin2 EB.T n1 n2 fun d H4 hd s4 e4 => k d H4 (s3.free hd) (s3.trans s4) e4⟩
        | false =>
          have sc : chgScan [] 0 os = if decide (chg p ∈ cs) then some (i, Str.ofString "twice") else chgScan (cs ++ [chg p]) (i + 1) (os.drop (i + 1)) := sc.trans (by show (if p.1.cond = true then _ else _) = _; rw [hcd]; rfl)
          have okp := chg_ok h.good
          refine iteF ⟨_, rfl, a, p, rfl, h, hcd, fun c1 H4 hc1 s4 e4 => ?_⟩
          have sL : Same H2 H4 := sT.trans s4
          have s5 : Same H H4 := s3.trans s4
          have pr4 : Paired (ChT (wo c H4)) ys cs := pr_imp pr fun _ _ q => q.keep (wo_keep (Same.keep sL))
          refine ⟨_, rfl, chD (chg p), cs.map chD, .tup (SqT.of e4) (.cons (.str _) (.cons (.str _) .nil)), .lst (SqL.of (sL _ _ hcy)) (dpAll_of (fun _ _ q => (q.keep wo_same).dp) pr4), shaped_ch okp, shaped_chs ok, ?_⟩
          rw [any_ch]
          refine ⟨_, rfl, ?_⟩
          refine ite2 (fun hd => ?_) (fun hd => ?_)
          · rw [if_pos hd] at sc
            rw [sc] at k
            exact ⟨_, rfl, fin2 EB.T n1 n2 fun d H5 hd5 s6 e5 => k d H5 (s5.free hd5) (s5.trans s6) e5⟩
          · rw [if_neg hd] at sc
            refine ⟨_, rfl, .inl ⟨rfl, _, SqL.of (sL _ _ hcy)⟩, _, rfl, a, p, rfl, h.keep s4, hcd, fun c2 H5 hc2 s6 e6 => ?_⟩
            have c2c : c2 ≠ c := (ne_of_none (sL _ _ hcy) hc2).symm
            have lys : ys.length = i := by rw [Paired.length pr, cl]
            refine ⟨c, _, _, rfl, rfl, s6 _ _ (sL _ _ hcy), line2 (by omega), _, _, cs ++ [chg p], _, rfl, ?_, upd_same, ?_, ?_, by simp [cl], sc⟩
            · intro z u e
              rw [upd_ne (ne_of_none e c0)]
              exact s6 _ _ (s5 _ _ e)
            · refine paired_app (pr_imp pr4 fun _ _ q => q.keep (woU s6)) ⟨c2, rfl, wo_at ?_ c2c⟩
              rw [upd_ne c2c]
              exact e6
            · intro q hq
              rcases List.mem_append.mp hq with hq | hq
              · exact ok q hq
              · rw [List.mem_singleton.mp hq]; exact okp
    · rintro σ H2 ⟨v1, v2, cs, ys, rfl, s2, hcy, pr, ok, cl, sc⟩
      rw [show chgScan cs xs.length (os.drop xs.length) = none by rw [List.drop_of_length_le (by omega)]; rfl] at sc
      rw [sc] at k
      exact k _ s2
end
end Kx

set_option maxHeartbeats 8000000
namespace Kx
open PySem L2
def clFs (z : Str) (ca da : Addr) : List (Str × V) := putF "changes" (.ref da) (putF "conditions" (.ref ca) (putF "kind" (.str z) []))
theorem s_ck : ¬ (Str.ofString "conditions") = Str.ofString "kind" := by decide +kernel
theorem s_hk : ¬ (Str.ofString "changes") = Str.ofString "kind" := by decide +kernel
theorem s_hc : ¬ (Str.ofString "changes") = Str.ofString "conditions" := by decide +kernel
theorem clFs_k (z : Str) (ca da : Addr) : (clFs z ca da).lookup ("kind" : Str) = some (.str z) := by
  unfold clFs
  rw [lookup_putF, if_neg (fun e => s_hk e.symm), lookup_putF, if_neg (fun e => s_ck e.symm), lookup_putF, if_pos rfl]
theorem clFs_c (z : Str) (ca da : Addr) : (clFs z ca da).lookup ("conditions" : Str) = some (.ref ca) := by
  unfold clFs
  rw [lookup_putF, if_neg (fun e => s_hc e.symm), lookup_putF, if_pos rfl]
theorem clFs_h (z : Str) (ca da : Addr) : (clFs z ca da).lookup ("changes" : Str) = some (.ref da) := by
  unfold clFs
  rw [lookup_putF, if_pos rfl]
theorem clFs_no (z : Str) (ca da : Addr) {m : Str} (h1 : ¬ m = Str.ofString "kind") (h2 : ¬ m = Str.ofString "conditions") (h3 : ¬ m = Str.ofString "changes") : (clFs z ca da).lookup m = none := by
  unfold clFs
  rw [lookup_putF, if_neg h3, lookup_putF, if_neg h2, lookup_putF, if_neg h1]
  rfl
/-- pieces in a tuple -/
def PcV (Cs : Pk → Addr) (H : Hp) (x : V) (p : Pc) : Prop := ∃ a, x = .ref a ∧ PcA Cs H a p.1 p.2
theorem PcV.keep {Cs : Pk → Addr} {H H' : Hp} {x : V} {p : Pc} (h : PcV Cs H x p) (s : Same H H') : PcV Cs H' x p := by
  obtain ⟨a, e, h⟩ := h
  exact ⟨a, e, h.keep s⟩
/-- a tuple: tracked, or a written one -/
def TupQ (K : PySem.W.Frag) (H : Hp) (b : Addr) (xs : List V) : Prop := H b = some (.tup xs) ∨ ∃ o, K.lookup b = some o ∧ o.cls = .type "tuple" ∧ ∀ H' : Hp, SqT K H' b xs
theorem TupQ.keep {K : PySem.W.Frag} {H H' : Hp} {b : Addr} {xs : List V} (h : TupQ K H b xs) (s : Same H H') : TupQ K H' b xs := h.imp (s _ _) id
theorem TupQ.sq {K : PySem.W.Frag} {H : Hp} {b : Addr} {xs : List V} (h : TupQ K H b xs) : SqT K H b xs := h.elim SqT.of fun ⟨_, _, _, q⟩ => q H
theorem TupQ.ty {K : PySem.W.Frag} {H : Hp} {b : Addr} {xs : List V} (h : TupQ K H b xs) : TyX K H (.ref b) (.type "tuple") := h.elim (fun h => .base (.tup h)) fun ⟨_, e, c, _⟩ => .kTuple e c
theorem TupQ.seq {K : PySem.W.Frag} {H : Hp} {b : Addr} {xs : List V} (h : TupQ K H b xs) : IsSeq K H b xs := h.elim .tup fun ⟨_, e, c, q⟩ => .wr e c q
/-- the clause at a -/
structure ClA (K : PySem.W.Frag) (Cs : Pk → Addr) (CC : Addr) (H : Hp) (a : Addr) (z : Str) (cs ds : List Pc) : Prop where
  ob : ∃ dx ca da xs ys, H a = some (.ins CC dx (clFs z ca da)) ∧ TupQ K H ca xs ∧ TupQ K H da ys ∧ Paired (PcV Cs H) xs cs ∧ Paired (PcV Cs H) ys ds
  lab : isLab z = true
  cd : condDue (some (cs.map some)) = none
  hd : chgDue (some (ds.map some)) = none
theorem ClA.keep {K : PySem.W.Frag} {Cs : Pk → Addr} {CC : Addr} {H H' : Hp} {a : Addr} {z : Str} {cs ds : List Pc} (h : ClA K Cs CC H a z cs ds) (s : Same H H') : ClA K Cs CC H' a z cs ds := by
  obtain ⟨⟨dx, ca, da, xs, ys, h1, h2, h3, h4, h5⟩, l, c, d⟩ := h
  exact ⟨⟨dx, ca, da, xs, ys, s _ _ h1, h2.keep s, h3.keep s, pr_imp h4 fun _ _ q => q.keep s, pr_imp h5 fun _ _ q => q.keep s⟩, l, c, d⟩
/-- index and word of a clause's first fault -/
def clDue (kv : V) (co dos : Option (List (Option Pc))) : Option (Nat × Str) := if labV kv then (match condDue co with
  | some x => some x
  | none => chgDue dos) else some (0, Str.ofString "kind")
def spCl (K : PySem.W.Frag) (Cs : Pk → Addr) (CC CB : Addr) : Sp := fun vs H Q E => ∃ (p dx : Addr) (kv cv dv : V) (n : String) (co dos : Option (List (Option Pc))), vs = [.ref p, kv, cv, dv] ∧ H p = some (.ins CC dx []) ∧ Thing H kv n ∧ SeqIs K Cs (wo p H) cv co ∧ SeqIs K Cs (wo p H) dv dos ∧
  match clDue kv co dos with
  | some (i, w) => ∀ d H', H d = none → Keep H H' p → H' d = some (.xd (clF i w)) → E (.ref CB) (some d) H'
  | none => ∀ (z : Str) (cs ds : List Pc) H', kv = .str z → co = some (cs.map some) → dos = some (ds.map some) → Keep H H' p → ClA K Cs CC H' p z cs ds → Q .non H'
theorem items_pc {Cs : Pk → Addr} {H : Hp} {xs : List V} : ∀ {ps : List Pc}, Paired (ItemIs Cs H) xs (ps.map some) → Paired (PcV Cs H) xs ps := by
  intro ps h
  refine pr_of (by rw [Paired.length h, List.length_map]) fun i x p hx hp => ?_
  obtain ⟨a, p', e, e1, h1⟩ := items_pcs h hx
  rw [hp] at e1
  cases e1
  exact ⟨a, e, h1⟩
theorem pc_items {Cs : Pk → Addr} {H : Hp} {xs : List V} {ps : List Pc} (h : Paired (PcV Cs H) xs ps) : Paired (ItemIs Cs H) xs (ps.map some) := by
  induction h with
  | nil => exact .nil
  | cons h t ih => obtain ⟨a, rfl, h⟩ := h; exact .cons (.pc h) ih
/-- a sequence as a tuple: a new one, or itself -/
theorem IsSeq.tupT {K : PySem.W.Frag} {H : Hp} {b : Addr} {xs : List V} (h : IsSeq K H b xs) : H b = some (.lst xs) ∨ TupQ K H b xs := by
  cases h with
  | lst h => exact .inl h
  | tup h => exact .inr (.inl h)
  | wr e c h => exact .inr (.inr ⟨_, e, c, h⟩)
section
variable {P : Program} {w : World} {K : PySem.W.Frag} {mg : Str → Option Value} {base : Heap}
/-- a check as it is called -/
def ChkF (P : Program) (w : World) (K : PySem.W.Frag) (mg : Str → Option Value) (base : Heap) (x : Str) (ps : List Str) (sp : Sp) : Prop := ∃ f fd, mg x = some (.ref f) ∧ PySem.W.keepIn K (.ref f) = true ∧ Binds K fd ps [] ∧ FnOk P w K mg base (L2.CX P w) 3 f fd ps sp
/-- tuple(x), x a sequence: a new tuple or x itself -/
structure TupF (K : PySem.W.Frag) (p : Addr) (xs : List V) (H3 : Hp) (ca : Addr) (H4 : Hp) : Prop where
  s : Same H3 H4
  q : TupQ K (wo p H4) ca xs
theorem tup_read {H H3 : Hp} {p cb : Addr} {o : HO} {xs : List V} (h : IsSeq K (wo p H) cb xs) (kp : Keep H H3 p) (hp : H3 p = some o) :
    (SqL K H3 cb xs ∧ ∀ l, H3 l = none → TupF K p xs H3 l (upd H3 l (.tup xs))) ∨ (SqT K H3 cb xs ∧ TupF K p xs H3 cb H3) := by
  have s3 : Same (wo p H) (wo p H3) := wo_keep kp
  rcases h.tupT with q | q
  · refine .inl ⟨SqL.of (wo_same _ _ (s3 _ _ q)), fun l hl => ?_⟩
    have nl : l ≠ p := (ne_of_none hp hl).symm
    exact ⟨sameUpd (Same.refl _) hl, .inl (wo_at upd_same nl)⟩
  · exact .inr ⟨((q.keep s3).keep wo_same).sq, Same.refl _, q.keep s3⟩
theorem scClause : FnScope ["self", "kind", "conditions", "changes"] ["self", "kind", "conditions", "changes"] (defScope sClause_init) := ⟨rfl, rfl, rfl, by decide +kernel, rfl, by decide +kernel, by decide +kernel⟩
theorem ok_clause {f CC CB fB : Addr} {fd fdB : FuncData} {Cs : Pk → Addr} {dvs : List V} (F : FunD K "__init__" "Clause.__init__" (defArgs sClause_init) (defBody sClause_init) (defScope sClause_init) dvs [] f fd) (B : Bm mg) (QX : QC K CC ["kind", "conditions", "changes"]) (Lb : HasF P w K mg base "is_label" 1 ["thing"] spLabel)
    (C1 : ChkF P w K mg base "_check_conditions" ["conditions"] (spChk K Cs CB condDue)) (C2 : ChkF P w K mg base "_check_changes" ["changes"] (spChk K Cs CB chgDue))
    (EB : ErC P w K mg base "BadClause" ["self", "index", "what"] CB fB fdB (spInit2 K CB "index" "what")) (n1 : PySem.W.findIn K (.ref CB) "index" = some none) (n2 : PySem.W.findIn K (.ref CB) "what" = some none) :
    FnOk P w K mg base (L2.CX P w) 4 f fd ["self", "kind", "conditions", "changes"] (spCl K Cs CC CB) := by
  obtain ⟨f1, fd1, Lb⟩ := Lb; obtain ⟨f2, fd2, m2, k2, b2, G2⟩ := C1; obtain ⟨f3, fd3, m3, k3, b3, G3⟩ := C2
  refine F.ok scClause (fun vs H Q E h => ?_) (fun cdv A outer s H vs Q E hr h => ?_)
  · obtain ⟨p, dx, a, b, c, d, e, g, rfl, _⟩ := h
    rfl
  · obtain ⟨p, dx, kv, cv, dv, n, co, dos, rfl, hp, tk, hc, hd, k⟩ := h
    have hr1 : Room 1 _ := hr.mono (by decide)
    have hr2 : Room 2 _ := hr.mono (by decide)
    refine ⟨_, (pss_cons (ps_if (pt_not (pt_val (pe_call Lb.G hr1 (by rfl) Lb.m Lb.kp Lb.b .nil pass0 (pa_cons (pv 1) pa_nil)))) (pss_one (ps_raise rfl (takes_of rfl rfl rfl rfl) (pmk_oex EB.T EB.iC EB.tI EB.G hr2 EB.b .nil pass0 (by rfl) EB.gC (pa_cons pe_int (pa_cons pe_str pa_nil))))) pss_nil)
    (pss_cons (ps_expr (pe_callS G2 hr (by rfl) m2 k2 b2 (passAt (takes_of rfl rfl rfl rfl)) (pa_cons (pv 2) pa_nil)))
    (pss_cons (ps_expr (pe_callS G3 hr (by rfl) m3 k3 b3 (passAt (takes_of rfl rfl rfl rfl)) (pa_cons (pv 3) pa_nil)))
    (pss_cons (ps_fld (pv 0) (pv 1) rfl)
    (C8.pss_cut (ps_fld (pv 0) (pe_callTy call_tuple_of (by rfl) B.tuple (by decide +kernel) (pa_cons (pv 2) pa_nil)) rfl)
    (pss_one (ps_fld (pv 0) (pe_callTy call_tuple_of (by rfl) B.tuple (by decide +kernel) (pa_cons (pv 3) pa_nil)) rfl))))))), ?_⟩
    refine ⟨_, rfl, kv, n, rfl, tk.kd, tk.short, _, rfl, ?_⟩
    cases e : labV kv with
    | false =>
      have ed : clDue kv co dos = some (0, Str.ofString "kind") := by unfold clDue; rw [e]; rfl
      rw [ed] at k
      exact iteT (fin2 EB.T n1 n2 fun d H2 hd s2 e2 => k d H2 hd (Same.keep s2) e2)
    | true =>
      have ed : clDue kv co dos = match condDue co with | some x => some x | none => chgDue dos := by unfold clDue; rw [e]; rfl
      refine iteF ⟨_, rfl, cv, co, rfl, hc.keep wo_same, ?_⟩
      cases e1 : condDue co with
      | some x =>
        obtain ⟨i, w'⟩ := x
        rw [ed, e1] at k
        exact fun d H' hd s2 e2 => k d H' hd (Same.keep s2) e2
      | none =>
        intro H1 s1
        refine ⟨_, rfl, dv, dos, rfl, hd.keep (wo_same.trans s1), ?_⟩
        rw [ed, e1] at k
        cases e2 : chgDue dos with
        | some x =>
          obtain ⟨i, w'⟩ := x
          rw [show (match (none : Option (Nat × Str)) with | some x => some x | none => chgDue dos) = chgDue dos from rfl, e2] at k
          exact fun d H' hd s2 e2 => k d H' (s1.free hd) (Same.keep (s1.trans s2)) e2
        | none =>
          rw [show (match (none : Option (Nat × Str)) with | some x => some x | none => chgDue dos) = chgDue dos from rfl, e2] at k
          intro H2 s2
          have s02 := s1.trans s2
          obtain ⟨cs, rfl, _, _⟩ := condDue_none e1
          obtain ⟨ds, rfl, _, _⟩ := chgDue_none e2
          obtain ⟨z, rfl, hz⟩ := lab_str e
          cases hc with
          | seq hcb ct cl =>
          rename_i cb xs
          cases hd with
          | seq hdb dt dl =>
          rename_i db ys
          have hp2 := s02 _ _ hp
          refine ⟨_, rfl, _, rfl, p, CC, dx, [], rfl, hp2, QX.cl, QX.no _ (.head _), (by show 0 < 1000; decide), ?_⟩
          refine ⟨fun σ H4' => ∃ (ca : Addr) (H4 : Hp), σ = [some (.ref p), some (.str z), some (.ref cb), some (.ref db)] ∧ TupF K p xs (upd H2 p (.ins CC dx (putF "kind" (.str z) []))) ca H4 ∧ H4' = upd H4 p (.ins CC dx (putF "conditions" (.ref ca) (putF "kind" (.str z) []))), ?_, ?_⟩
          · refine ⟨_, rfl, cb, xs, rfl, (tup_read hcb (Keep.upd (Same.keep s02)) upd_same).imp (fun ⟨h1, h2⟩ => ⟨h1, fun l hl => ?_⟩) fun ⟨h1, h2⟩ => ⟨h1, ?_⟩⟩
            · have f := h2 l hl
              exact ⟨_, rfl, p, CC, dx, _, rfl, f.s _ _ upd_same, QX.cl, QX.no _ (.tail _ (.head _)), (by show 1 < 1000; decide), l, _, rfl, f, rfl⟩
            · exact ⟨_, rfl, p, CC, dx, _, rfl, h2.s _ _ upd_same, QX.cl, QX.no _ (.tail _ (.head _)), (by show 1 < 1000; decide), cb, _, rfl, h2, rfl⟩
          rintro σ _ ⟨ca, H4, rfl, f4, rfl⟩
          have k4 : Keep H H4 p := fun b o e ne => f4.s _ _ (Keep.upd (Same.keep s02) b o e ne)
          have fin : ∀ (da : Addr) (H5 : Hp), TupF K p ys (upd H4 p (.ins CC dx (putF "conditions" (.ref ca) (putF "kind" (.str z) [])))) da H5 → Q .non (upd H5 p (.ins CC dx (clFs z ca da))) := fun da H5 f5 => by
            have k5 : Keep H H5 p := fun b o e ne => f5.s _ _ (Keep.upd k4 b o e ne)
            have k6 := Keep.upd (o := .ins CC dx (clFs z ca da)) k5
            have s46 : Same (wo p H4) (upd H5 p (.ins CC dx (clFs z ca da))) := (wo_keep fun b o e ne => by rw [upd_ne ne]; exact f5.s _ _ (by rw [upd_ne ne]; exact e)).trans wo_same
            have s56 : Same (wo p H5) (upd H5 p (.ins CC dx (clFs z ca da))) := (wo_keep fun b o e ne => by rw [upd_ne ne]; exact e).trans wo_same
            have s06 : Same (wo p H) (upd H5 p (.ins CC dx (clFs z ca da))) := (wo_keep k6).trans wo_same
            exact k z cs ds _ rfl rfl rfl k6 ⟨⟨dx, ca, da, xs, ys, upd_same, f4.q.keep s46, f5.q.keep s56, items_pc (pr_imp ct fun _ _ q => q.keep s06), items_pc (pr_imp dt fun _ _ q => q.keep s06)⟩, hz, e1, e2⟩
          refine ⟨_, rfl, db, ys, rfl, (tup_read hdb (Keep.upd k4) upd_same).imp (fun ⟨h1, h2⟩ => ⟨h1, fun l hl => ?_⟩) fun ⟨h1, h2⟩ => ⟨h1, ?_⟩⟩
          · have f := h2 l hl
            exact ⟨_, rfl, p, CC, dx, _, rfl, f.s _ _ upd_same, QX.cl, QX.no _ (.tail _ (.tail _ (.head _))), (by show 2 < 1000; decide), fin l _ f⟩
          · exact ⟨_, rfl, p, CC, dx, _, rfl, h2.s _ _ upd_same, QX.cl, QX.no _ (.tail _ (.tail _ (.head _))), (by show 2 < 1000; decide), fin db _ h2⟩
end
end Kx

set_option maxHeartbeats 8000000
namespace Kx
open PySem L2
/-- a comprehension with a test: what it picks -/
theorem lc_sel {K : PySem.W.Frag} {a : Addr} {xs : List V} {g : TG} {tt : TT} {te : TE} {vs : List Nat} {σ : L2.St} {H0 H1 : Hp} {Qd : Addr → Hp → Prop} (sel : Nat → Option V) (q : IsSeq K H0 a xs) (s0 : Same H0 H1) (hz : xs.length ≤ 2000000)
    (step : ∀ i x H (kt : V → Hp → Prop) (kf : Hp → Prop), xs[i]? = some x → Same H1 H → (∀ y H4, sel i = some y → Same H H4 → kt y H4) → (sel i = none → ∀ H4, Same H H4 → kf H4) →
      g x (wipe σ vs) H fun σ2 H2 => wipe σ2 vs = wipe σ vs ∧ tt σ2 H2 fun b H3 => if b = true then te σ2 H3 kt else kf H3)
    (after : ∀ D H, H1 D = none → Same H1 H → H D = some (.lst ((List.range xs.length).filterMap sel)) → Qd D H) : LcB K a g tt te vs σ H1 Qd := by
  refine lc_sq q s0 fun D hD => ⟨fun i H => Same H1 H ∧ H D = some (.lst ((List.range i).filterMap sel)) ∧ i ≤ xs.length, ⟨sameUpd (Same.refl _) hD, upd_same, Nat.zero_le _⟩, fun i H p => s0.trans p.1, ?_, ?_⟩
  · rintro i x H hi ⟨s1, hd, _⟩
    have lt : i < xs.length := (List.getElem?_eq_some_iff.mp hi).1
    have ln : ((List.range i).filterMap sel).length ≤ i := by
      have := List.length_filterMap_le sel (List.range i)
      rwa [List.length_range] at this
    refine step i x H _ _ hi s1 (fun y H4 e s4 => ?_) (fun e H4 s4 => ?_)
    · refine ⟨_, s4 _ _ hd, line2 (by omega), woD hD s1 s4, ?_, lt⟩
      rw [List.range_succ, List.filterMap_append]
      show upd H4 D (.lst ((List.range i).filterMap sel ++ [y])) D = _
      rw [upd_same]
      simp [e]
    · refine ⟨s1.trans s4, ?_, lt⟩
      rw [List.range_succ, List.filterMap_append, s4 _ _ hd]
      simp [e]
  · rintro H ⟨s1, hd, _⟩
    exact after D H hD s1 hd
theorem lookK {α : Type} {l : List α} {f : α → Option V} : ((List.range l.length).filterMap fun i => l[i]?.bind f) = l.filterMap f := by
  induction l with
  | nil => rfl
  | cons a l ih =>
    rw [List.length_cons, List.range_succ_eq_map, List.filterMap_cons, List.filterMap_map, List.filterMap_cons]
    have e : ((fun i => (a :: l)[i]?.bind f) ∘ Nat.succ) = fun i => l[i]?.bind f := by
      funext i
      simp
    rw [e, ih]
    simp
/-- the second attribute of those that speak of persons -/
def whatOf (p : Pc) : Option V := if p.1.sh = .s then p.2[1]? else none
def isPair (p : Pc) : Bool := decide (p.1 = .same) || decide (p.1 = .apart)
def arOf (ps : List Pc) : Int := if (inV (.str "second") (ps.filterMap whatOf) || ps.any isPair) then 2 else (if inV (.str "first") (ps.filterMap whatOf) then 1 else 0)
theorem range_eq (ps qs : List Pc) : ((List.range (min ps.length qs.length)).all (fun i => decide (ps[i]? = qs[i]?)) && ps.length == qs.length) = decide (ps = qs) := by
  by_cases h : ps = qs
  · subst h
    simp
  · rw [decide_eq_false h]
    by_cases l : ps.length = qs.length
    · rw [Bool.and_eq_false_iff]
      left
      refine List.all_eq_false.mpr ?_
      apply Classical.byContradiction
      intro no
      refine h (List.ext_getElem? fun i => ?_)
      by_cases lt : i < ps.length
      · apply Classical.byContradiction
        intro ne
        exact no ⟨i, List.mem_range.mpr (by omega), by rw [decide_eq_true_eq]; exact ne⟩
      · rw [List.getElem?_eq_none (by omega), List.getElem?_eq_none (by omega)]
    · simp [l]
theorem kitOr {K : PySem.W.Frag} {t c1 c2 : Value} {b1 b2 : Bool} (h1 : PySem.W.kitOne K t c1 = some b1) (h2 : PySem.W.kitOne K t c2 = some b2) : PySem.W.kitAny K t [c1, c2] = some (b1 || b2) := by
  cases b1 with
  | true => exact kitAny_cons h1 (fun e => nomatch e) fun _ => rfl
  | false => exact kitAny_cons h1 (fun _ => by cases b2 with
    | true => exact kitAny_cons h2 (fun e => nomatch e) fun _ => rfl
    | false => exact kitAny_cons h2 (fun _ => kitAny_nil) (fun e => nomatch e)) (fun e => nomatch e)
end Kx

set_option maxHeartbeats 8000000
namespace Kx
open PySem L2
/-- == of a clause: with a clause, or with what is none -/
def spCEq (K : PySem.W.Frag) (Cs : Pk → Addr) (CC : Addr) : Sp := fun vs H Q _ => ∃ (a : Addr) (y : V) (z : Str) (cs ds : List Pc), vs = [.ref a, y] ∧ ClA K Cs CC H a z cs ds ∧
  ((∃ (b : Addr) (z' : Str) (cs' ds' : List Pc), y = .ref b ∧ ClA K Cs CC H b z' cs' ds' ∧ Q (.bl (decide (z = z' ∧ cs = cs' ∧ ds = ds'))) H) ∨ (∃ t, TyX K H y t ∧ PySem.W.kitOne K t (.ref CC) = some false ∧ Q (.bl false) H))
def spAr (K : PySem.W.Frag) (Cs : Pk → Addr) (CC : Addr) : Sp := fun vs H Q _ => ∃ (a : Addr) (z : Str) (cs ds : List Pc), vs = [.ref a] ∧ ClA K Cs CC H a z cs ds ∧ ∀ H', Same H H' → Q (.int (arOf (cs ++ ds))) H'
section
variable {P : Program} {w : World} {K : PySem.W.Frag} {mg : Str → Option Value} {base : Heap}
theorem kit_self {K : PySem.W.Frag} {c : Value} : PySem.W.kitOne K c c = some true := by
  unfold PySem.W.kitOne
  rw [beq_self_eq_true]
  rfl
theorem pcs_dpc {Cs : Pk → Addr} {H : Hp} {xs ys : List V} {ps qs : List Pc} (h : Paired (PcV Cs H) xs ps) (h' : Paired (PcV Cs H) ys qs) : ∀ (i : Nat) x y, xs[i]? = some x → ys[i]? = some y → DPc Cs x y (decide (ps[i]? = qs[i]?)) H := by
  intro i x y hx hy
  obtain ⟨p, hp, a, rfl, ha⟩ := Paired.at h hx
  obtain ⟨q, hq, b, rfl, hb⟩ := Paired.at h' hy
  exact ⟨a, b, p, q, rfl, rfl, ha, hb, by rw [hp, hq]; exact decide_eq_decide.mpr ⟨fun e => Option.some.inj e, fun e => by rw [e]⟩⟩
theorem paired_cat {α β : Type} {F : α → β → Prop} {xs xs' : List α} {ys ys' : List β} (h : Paired F xs ys) (h' : Paired F xs' ys') : Paired F (xs ++ xs') (ys ++ ys') := by
  induction h with
  | nil => exact h'
  | cons h t ih => exact .cons h ih
theorem Paired.at2 {α β : Type} {F : α → β → Prop} {xs : List α} {ys : List β} (h : Paired F xs ys) : ∀ {i : Nat} {y : β}, ys[i]? = some y → ∃ x, xs[i]? = some x ∧ F x y := by
  induction h with
  | nil => intro i x e; cases e
  | cons h t ih =>
    intro i x e
    cases i with
    | zero => cases e; exact ⟨_, rfl, h⟩
    | succ i => exact ih e
theorem any_ix (ps : List Pc) : ps.any isPair = (List.range ps.length).any (fun i => (ps[i]?.map isPair).getD false) := by
  cases e : ps.any isPair with
  | true =>
    obtain ⟨p, hp, e⟩ := List.any_eq_true.mp e
    obtain ⟨i, hi⟩ := List.mem_iff_getElem?.mp hp
    exact (List.any_eq_true.mpr ⟨i, List.mem_range.mpr (List.getElem?_eq_some_iff.mp hi).1, by rw [hi]; exact e⟩).symm
  | false =>
    refine (List.any_eq_false.mpr fun i hi => ?_).symm
    have lt := List.mem_range.mp hi
    rw [List.getElem?_eq_getElem lt]
    exact List.any_eq_false.mp e _ (List.getElem_mem lt)
theorem kitOr3 {K : PySem.W.Frag} {t c1 c2 c3 : Value} {b1 b2 b3 : Bool} (h1 : PySem.W.kitOne K t c1 = some b1) (h2 : PySem.W.kitOne K t c2 = some b2) (h3 : PySem.W.kitOne K t c3 = some b3) : PySem.W.kitAny K t [c1, c2, c3] = some (b1 || (b2 || b3)) := by
  cases b1 with
  | true => exact kitAny_cons h1 (fun e => nomatch e) fun _ => rfl
  | false => exact kitAny_cons h1 (fun _ => (show _ = some (b2 || b3) from kitOr h2 h3)) (fun e => nomatch e)
theorem scCEq : FnScope ["self", "other"] ["self", "other"] (defScope sClause_eq) := ⟨rfl, rfl, rfl, by decide +kernel, rfl, by decide +kernel, by decide +kernel⟩
theorem ok_ceq {f CC : Addr} {fd : FuncData} {Cs : Pk → Addr} (F : Fun K "__eq__" "Clause.__eq__" sClause_eq f fd) (B : Bm mg) (PC : PkC K Cs) (EM : EqM P w K mg base Cs) (QX : QC K CC ["kind", "conditions", "changes"]) (mC : mg "Clause" = some (.ref CC)) :
    FnOk P w K mg base CX0 3 f fd ["self", "other"] (spCEq K Cs CC) := by
  refine F.ok scCEq (fun vs H Q E h => ?_) (fun cdv A outer s H vs Q E hr h => ?_)
  · obtain ⟨a, y, z, cs, ds, rfl, _⟩ := h
    rfl
  · obtain ⟨a, y, z, cs, ds, rfl, ha, h⟩ := h
    refine ⟨_, (pss_cons (ps_if (PW.pt (pw_or (pt_not (pt_val (pe_callB call_isi (by rfl) B.isinstance (by decide +kernel) (pa_cons (pv 1) (pa_cons (pe_glob (v := .ref CC) rfl mC rfl) pa_nil))))) (pw_or1 (pt_cmpR op_ne (pe_fld (pv 0) rfl) (pe_fld (pv 1) rfl) (nomark _))))) (pss_one (ps_ret pe_bl)) pss_nil)
    (pss_one (ps_ret (pe_and (pe_cmpR (op_eqB (eqB_pc (Cs := Cs) PC EM) hr) (pe_fld (pv 0) rfl) (pe_fld (pv 1) rfl) (nomark _)) (pe_one (pe_cmpR (op_eqB (eqB_pc (Cs := Cs) PC EM) hr) (pe_fld (pv 0) rfl) (pe_fld (pv 1) rfl) (nomark _))))))), ?_⟩
    obtain ⟨dx, ca, da, xs, ys, h1, h2, h3, h4, h5⟩ := ha.ob
    rcases h with ⟨b, z', cs', ds', rfl, hb, q⟩ | ⟨t, ty, kt, q⟩
    · obtain ⟨dx', ca', da', xs', ys', g1, g2, g3, g4, g5⟩ := hb.ob
      refine ⟨_, rfl, _, _, _, _, _, rfl, .own _, QX.ty g1, kit_self, _, rfl, iteF ?_⟩
      refine ⟨_, rfl, a, _, dx, _, _, rfl, h1, QX.cl, QX.no _ (.head _), clFs_k _ _ _, _, rfl, b, _, dx', _, _, rfl, g1, QX.cl, QX.no _ (.head _), clFs_k _ _ _, rfl, _, rfl, ?_⟩
      have nn : (!decide (V.str z = V.str z')) = !decide (z = z') := by
        by_cases e : z = z'
        · subst e; simp
        · rw [decide_eq_false e, decide_eq_false fun h => e (V.str.inj h)]
      rw [nn]
      by_cases e : z = z'
      · subst e
        rw [decide_eq_true rfl]
        refine iteF ⟨_, rfl, a, _, dx, _, _, rfl, h1, QX.cl, QX.no _ (.tail _ (.head _)), clFs_c _ _ _, _, rfl, b, _, dx', _, _, rfl, g1, QX.cl, QX.no _ (.tail _ (.head _)), clFs_c _ _ _, ?_⟩
        refine ⟨ca, ca', xs, xs', _, rfl, rfl, h2.sq, g2.sq, pcs_dpc h4 g4, _, rfl, ?_⟩
        rw [Paired.length h4, Paired.length g4, range_eq]
        by_cases e2 : cs = cs'
        · subst e2
          rw [decide_eq_true rfl]
          refine iteT ⟨_, rfl, a, _, dx, _, _, rfl, h1, QX.cl, QX.no _ (.tail _ (.tail _ (.head _))), clFs_h _ _ _, _, rfl, b, _, dx', _, _, rfl, g1, QX.cl, QX.no _ (.tail _ (.tail _ (.head _))), clFs_h _ _ _, ?_⟩
          refine ⟨da, da', ys, ys', _, rfl, rfl, h3.sq, g3.sq, pcs_dpc h5 g5, ?_⟩
          rw [Paired.length h5, Paired.length g5, range_eq]
          have e3 : decide (z = z ∧ cs = cs ∧ ds = ds') = decide (ds = ds') := by simp
          rw [e3] at q
          exact q
        · rw [decide_eq_false (fun h => e2 h.2.1)] at q
          rw [decide_eq_false e2]
          exact iteF q
      · rw [decide_eq_false (fun h => e h.1)] at q
        rw [decide_eq_false e]
        exact iteT q
    · exact ⟨_, rfl, _, _, _, _, _, rfl, .own _, ty, kt, _, rfl, iteT q⟩
abbrev nAr : List Str := ["self", "pieces", "whats", "pairs", "piece"]
theorem scAr : FnScope nAr ["self"] (defScope sClause_arity) := ⟨rfl, rfl, rfl, by decide +kernel, rfl, by decide +kernel, by decide +kernel⟩
theorem ok_arity {f CC : Addr} {fd : FuncData} {Cs : Pk → Addr} (F : Fun K "arity" "Clause.arity" sClause_arity f fd) (B : Bm mg) (PC : PkC K Cs) (QX : QC K CC ["kind", "conditions", "changes"]) (m1 : mg "Is" = some (.ref (Cs .is_))) (m2 : mg "IsNot" = some (.ref (Cs .isnot))) (m3 : mg "Put" = some (.ref (Cs .put))) (m4 : mg "SamePerson" = some (.ref (Cs .same))) (m5 : mg "Apart" = some (.ref (Cs .apart))) :
    FnOk P w K mg base CX0 1 f fd ["self"] (spAr K Cs CC) := by
  refine F.ok scAr (fun vs H Q E h => ?_) (fun cdv A outer s H vs Q E hr h => ?_)
  · obtain ⟨a, z, cs, ds, rfl, _⟩ := h
    rfl
  · obtain ⟨a, z, cs, ds, rfl, ha, k⟩ := h
    refine ⟨_, (pss_cons (ps_set (i := 1) scAr.nd rfl (Or.inl rfl) (pe_tup (StX.pa_star (pe_fld (pv 0) rfl) (StX.pa_star (pe_fld (pv 0) rfl) pa_nil))))
    (C8.pss_cut (ps_setLc (i := 2) (own := [("piece", 4)]) (g := gName 4) (by rfl) scAr.nd rfl rfl (sw_true rfl rfl rfl (by decide +kernel)) (pi_seq (pv 1)) (blkOk_by (own := [("piece", 4)]) (N := nAr) (sc := defScope sClause_arity) (by decide +kernel))
          (fun _ _ _ _ _ => pg_name (i := 4) scAr.nd rfl (Or.inl rfl)) (fun _ _ _ _ _ => pts_one (pt_val (pe_callB (call_isiTK (K := K) rfl) (by rfl) B.isinstance (by decide +kernel) (pa_cons (pv 4) (pa_cons (pe_tup (pa_cons (pe_glob (v := .ref (Cs .is_)) rfl m1 rfl) (pa_cons (pe_glob (v := .ref (Cs .isnot)) rfl m2 rfl) (pa_cons (pe_glob (v := .ref (Cs .put)) rfl m3 rfl) pa_nil)))) pa_nil))))) (fun _ _ _ _ _ => pe_fldK (K := K) rfl (pv 4) rfl))
    (C8.pss_cut (ps_setLc (i := 3) (own := [("piece", 4)]) (g := gName 4) (by rfl) scAr.nd rfl rfl (sw_true rfl rfl rfl (by decide +kernel)) (pi_seq (pv 1)) (blkOk_by (own := [("piece", 4)]) (N := nAr) (sc := defScope sClause_arity) (by decide +kernel))
          (fun _ _ _ _ _ => pg_name (i := 4) scAr.nd rfl (Or.inl rfl)) (fun _ _ _ _ _ => pts_one (pt_val (pe_callB (call_isiTK (K := K) rfl) (by rfl) B.isinstance (by decide +kernel) (pa_cons (pv 4) (pa_cons (pe_tup (pa_cons (pe_glob (v := .ref (Cs .same)) rfl m4 rfl) (pa_cons (pe_glob (v := .ref (Cs .apart)) rfl m5 rfl) pa_nil))) pa_nil))))) (fun _ _ _ _ _ => pv 4))
    (pss_cons (ps_if (PW.pt (pw_or (pt_cmpR op_in_seq pe_str (pv 2) (by rfl)) (pw_or1 (pt_truth (pv 3) (fun _ => rfl))))) (pss_one (ps_ret pe_int)) pss_nil)
    (pss_one (ps_ret (pe_ifExp (pt_cmpR op_in_seq pe_str (pv 2) (by rfl)) pe_int pe_int))))))), ?_⟩
    obtain ⟨dx, ca, da, xs, ys, h1, h2, h3, h4, h5⟩ := ha.ob
    have l1 : cs.length ≤ 6 := by obtain ⟨ps, e, l, _⟩ := condDue_none ha.cd; have := congrArg (Option.map List.length) e; simp at this; omega
    have l2 : ds.length ≤ 8 := by obtain ⟨ps, e, l, _⟩ := chgDue_none ha.hd; have := congrArg (Option.map List.length) e; simp at this; omega
    have q1 := Paired.length h4
    have q2 := Paired.length h5
    refine ⟨_, rfl, a, _, dx, _, _, rfl, h1, QX.cl, QX.no _ (.tail _ (.head _)), clFs_c _ _ _, ca, xs, rfl, .inl h2.sq, _, rfl, a, _, dx, _, _, rfl, h1, QX.cl, QX.no _ (.tail _ (.tail _ (.head _))), clFs_h _ _ _, da, ys, rfl, .inl h3.sq, ?_⟩
    have pr : Paired (PcV Cs H) (xs ++ (ys ++ [])) (cs ++ ds) := by rw [List.append_nil]; exact paired_cat h4 h5
    have lx : (xs ++ (ys ++ [])).length = (cs ++ ds).length := Paired.length pr
    have l3 : (cs ++ ds).length ≤ 14 := by rw [List.length_append]; omega
    refine ⟨by rw [lx]; exact Nat.le_of_lt (line2 (by omega)), fun q hq => ?_⟩
    have sq := sameUpd (o := .tup (xs ++ (ys ++ []))) (Same.refl H) hq
    refine ⟨fun σ H1 => ∃ D, σ = [some (.ref a), some (.ref q), some (.ref D), none, none] ∧ Same H H1 ∧ H1 q = some (.tup (xs ++ (ys ++ []))) ∧ H1 D = some (.lst ((cs ++ ds).filterMap whatOf)), ?_, ?_⟩
    · refine ⟨_, rfl, q, rfl, lc_sel (g := gName 4) (fun i => (cs ++ ds)[i]?.bind whatOf) (IsSeq.tup upd_same) (Same.refl _) (by omega) ?_ ?_⟩
      · rintro i x H3 kt kf hi s3 yes no
        obtain ⟨p, hp, a', rfl, hx⟩ := Paired.at pr hi
        have s03 := sq.trans s3
        refine ⟨rfl, _, rfl, (by show 3 ≤ sizeLine; decide), fun t ht => ?_⟩
        have st := sameUpd (o := .tup [V.ref (Cs .is_), V.ref (Cs .isnot), V.ref (Cs .put)]) (Same.refl H3) ht
        obtain ⟨dx', ea⟩ := hx.ob
        have ea' := st _ _ (s03 _ _ ea)
        refine ⟨_, t, _, _, _, _, rfl, upd_same, .cons (.own _) (.cons (.own _) (.cons (.own _) .nil)), (PC.q _).ty ea', kitOr3 (PC.isi _ _) (PC.isi _ _) (PC.isi _ _), _, rfl, ?_⟩
        rw [hp] at yes no
        obtain ⟨k', args⟩ := p
        have hg := hx.good
        cases k' with
        | is_ =>
          obtain ⟨u, v, rfl⟩ := whole_of (s := .s) (good_args hg).1
          exact iteT ⟨_, rfl, a', _, dx', _, _, rfl, ea', (PC.q .is_).cl, (PC.q .is_).no _ (.tail _ (.head _)), zip_snd s_sw, yes v _ rfl st⟩
        | isnot =>
          obtain ⟨u, v, rfl⟩ := whole_of (s := .s) (good_args hg).1
          exact iteT ⟨_, rfl, a', _, dx', _, _, rfl, ea', (PC.q .isnot).cl, (PC.q .isnot).no _ (.tail _ (.head _)), zip_snd s_sw, yes v _ rfl st⟩
        | put =>
          obtain ⟨u, v, rfl⟩ := whole_of (s := .s) (good_args hg).1
          exact iteT ⟨_, rfl, a', _, dx', _, _, rfl, ea', (PC.q .put).cl, (PC.q .put).no _ (.tail _ (.head _)), zip_snd s_sw, yes v _ rfl st⟩
        | _ => exact iteF (no rfl _ st)
      · intro D H3 hD s3 hd
        rw [lx, lookK] at hd
        exact ⟨D, rfl, sq.trans s3, s3 _ _ upd_same, hd⟩
    rintro σ H1 ⟨D, rfl, s1, q1', d1⟩
    refine ⟨fun σ H2 => ∃ E zs, σ = [some (.ref a), some (.ref q), some (.ref D), some (.ref E), none] ∧ Same H H2 ∧ H2 D = some (.lst ((cs ++ ds).filterMap whatOf)) ∧ H2 E = some (.lst zs) ∧ (!zs.isEmpty) = (cs ++ ds).any isPair, ?_, ?_⟩
    · refine ⟨_, rfl, q, rfl, lc_filt (g := gName 4) (fun i => ((cs ++ ds)[i]?.map isPair).getD false) (IsSeq.tup q1') (Same.refl _) (by omega) ?_ ?_⟩
      · rintro D' i x H3 kt kf hi hD s3 _ yes no
        obtain ⟨p, hp, a', rfl, hx⟩ := Paired.at pr hi
        have s03 := s1.trans s3
        refine ⟨rfl, _, rfl, (by show 2 ≤ sizeLine; decide), fun t ht => ?_⟩
        have st := sameUpd (o := .tup [V.ref (Cs .same), V.ref (Cs .apart)]) (Same.refl H3) ht
        obtain ⟨dx', ea⟩ := hx.ob
        have ea' := st _ _ (s03 _ _ ea)
        refine ⟨_, t, _, _, _, _, rfl, upd_same, .cons (.own _) (.cons (.own _) .nil), (PC.q _).ty ea', kitOr (PC.isi _ _) (PC.isi _ _), _, rfl, ?_⟩
        rw [hp] at yes no
        cases e : isPair p with
        | true => exact (if_pos e).mpr ⟨_, rfl, yes e _ _ (.inr ⟨a', rfl⟩) st⟩
        | false => exact (if_neg (by unfold isPair at e; rw [e]; decide)).mpr (no e _ st)
      · intro D' zs H3 hD s3 hd zl _ hz
        refine ⟨D', zs, rfl, s1.trans s3, s3 _ _ d1, hd, ?_⟩
        rw [any_ix, ← lx]
        cases zs with
        | nil =>
          have := hz.mp rfl
          refine (List.any_eq_false.mpr fun i hi => ?_).symm
          rw [this i (List.mem_range.mp hi)]
          exact Bool.false_ne_true
        | cons z zs =>
          cases e : (List.range (xs ++ (ys ++ [])).length).any (fun i => ((cs ++ ds)[i]?.map isPair).getD false) with
          | true => rfl
          | false =>
            have := hz.mpr fun i hi => by
              have := List.any_eq_false.mp e i (List.mem_range.mpr hi)
              exact Bool.eq_false_iff.mpr this
            cases this
    rintro σ H2 ⟨E2, zs, rfl, s2, d2, e2, ez⟩
    have wl : ((cs ++ ds).filterMap whatOf).all flatV = true := List.all_eq_true.mpr fun v hv => by
      obtain ⟨p, hp, e⟩ := List.mem_filterMap.mp hv
      obtain ⟨i, hi⟩ := List.mem_iff_getElem?.mp hp
      obtain ⟨x, hx, _, _, hx2⟩ := Paired.at2 pr hi
      unfold whatOf at e
      split at e
      · rcases (good_args hx2.good).2 v (List.mem_iff_getElem?.mpr ⟨1, e⟩) with ⟨z, rfl, _⟩ | ⟨j, rfl, _⟩ <;> rfl
      · cases e
    have res : ∀ n : Int, arOf (cs ++ ds) = n → Q (.int n) H2 := fun n e => by rw [← e]; exact k H2 s2
    refine ⟨_, rfl, D, _, rfl, .inl (SqL.of d2), rfl, wl, _, rfl, ?_⟩
    have two : ∀ b, inV (.str (Str.ofString "second")) ((cs ++ ds).filterMap whatOf) = b → (b || (cs ++ ds).any isPair) = true → arOf (cs ++ ds) = 2 := fun b e h => by unfold arOf; rw [e, if_pos h]
    have rest : (inV (.str (Str.ofString "second")) ((cs ++ ds).filterMap whatOf) || (cs ++ ds).any isPair) = false → arOf (cs ++ ds) = if inV (.str (Str.ofString "first")) ((cs ++ ds).filterMap whatOf) then 1 else 0 := fun h => by unfold arOf; rw [if_neg (by rw [h]; exact Bool.false_ne_true)]
    cases e : inV (.str (Str.ofString "second")) ((cs ++ ds).filterMap whatOf) with
    | true => exact iteT (res 2 (two true e rfl))
    | false =>
      rw [e] at rest
      refine iteF ⟨_, rfl, _, .inl ⟨zs, SqL.of e2, rfl⟩, ?_⟩
      rw [ez]
      cases e3 : (cs ++ ds).any isPair with
      | true => exact iteT (res 2 (two false e (by rw [e3]; rfl)))
      | false =>
        rw [e3] at rest
        have rest := rest rfl
        refine iteF ⟨_, rfl, D, _, rfl, .inl (SqL.of d2), rfl, wl, _, rfl, ?_⟩
        cases e4 : inV (.str (Str.ofString "first")) ((cs ++ ds).filterMap whatOf) with
        | true => rw [e4] at rest; exact iteT (res 1 rest)
        | false => rw [e4] at rest; exact iteF (res 0 rest)
end
end Kx

set_option maxHeartbeats 8000000
namespace Kx
open PySem L2
/-- one condition more -/
def spWith (K : PySem.W.Frag) (Cs : Pk → Addr) (CC CB : Addr) : Sp := fun vs H Q E => ∃ (a : Addr) (y : V) (z : Str) (cs ds : List Pc) (o : Option Pc), vs = [.ref a, y] ∧ ClA K Cs CC H a z cs ds ∧ ItemIs Cs H y o ∧
  match condDue (some (cs.map some ++ [o])) with
  | some (i, w) => ∀ d H', H d = none → Same H H' → H' d = some (.xd (clF i w)) → E (.ref CB) (some d) H'
  | none => ∀ (b : Addr) (p : Pc) H', o = some p → H b = none → Same H H' → ClA K Cs CC H' b z (cs ++ [p]) ds → Q (.ref b) H'
def oppP (p : Pc) : Pc := (p.1.opp, p.2)
/-- split in two -/
def spSplit (K : PySem.W.Frag) (Cs : Pk → Addr) (CC CB : Addr) : Sp := fun vs H Q E => ∃ (a : Addr) (y : V) (z : Str) (cs ds : List Pc) (o : Option Pc), vs = [.ref a, y] ∧ ClA K Cs CC H a z cs ds ∧ ItemIs Cs H y o ∧
  match condDue (some (cs.map some ++ [o])) with
  | some (i, w) => ∀ d H', H d = none → Same H H' → H' d = some (.xd (clF i w)) → E (.ref CB) (some d) H'
  | none => ∀ p, o = some p → match condDue (some ((cs ++ [oppP p]).map some)) with
    | some (i, w) => ∀ d H', H d = none → Same H H' → H' d = some (.xd (clF i w)) → E (.ref CB) (some d) H'
    | none => ∀ (t b c : Addr) H', Same H H' → H t = none → H' t = some (.tup [.ref b, .ref c]) → ClA K Cs CC H' b z (cs ++ [p]) ds → ClA K Cs CC H' c z (cs ++ [oppP p]) ds → Q (.ref t) H'
section
variable {P : Program} {w : World} {K : PySem.W.Frag} {mg : Str → Option Value} {base : Heap}
structure ClM (P : Program) (w : World) (K : PySem.W.Frag) (mg : Str → Option Value) (base : Heap) (Cs : Pk → Addr) (CC CB fI : Addr) (fdI : FuncData) : Prop where
  MK : Mk K CC fI
  GI : FnOk P w K mg base (L2.CX P w) 4 fI fdI ["self", "kind", "conditions", "changes"] (spCl K Cs CC CB)
  m : mg "Clause" = some (.ref CC)
  bI : Binds K fdI ["self", "kind", "conditions", "changes"] []
theorem map_some_inj {xs ys : List Pc} (h : xs.map some = ys.map some) : xs = ys := by
  have := congrArg (List.filterMap id) h
  simpa using this
theorem map_app (cs : List Pc) (p : Pc) : (cs ++ [p]).map some = cs.map some ++ [some p] := by rw [List.map_append]; rfl
theorem scWith : FnScope ["self", "condition"] ["self", "condition"] (defScope sClause_with_condition) := ⟨rfl, rfl, rfl, by decide +kernel, rfl, by decide +kernel, by decide +kernel⟩
theorem ok_with {f CC CB fI : Addr} {fd fdI : FuncData} {Cs : Pk → Addr} (F : Fun K "with_condition" "Clause.with_condition" sClause_with_condition f fd) (QX : QC K CC ["kind", "conditions", "changes"]) (M : ClM P w K mg base Cs CC CB fI fdI) :
    FnOk P w K mg base (L2.CX P w) 6 f fd ["self", "condition"] (spWith K Cs CC CB) := by
  refine F.okX scWith (fun vs H Q E h => ?_) (fun cdv A outer s H vs Q E hr h => ?_)
  · obtain ⟨a, y, z, cs, ds, o, rfl, _⟩ := h
    rfl
  · obtain ⟨a, y, z, cs, ds, o, rfl, ha, hy, k⟩ := h
    refine ⟨_, pss_one (ps_ret (pe_makeS M.MK M.GI hr (by rfl) M.m M.bI (passAt (takes_of rfl rfl rfl rfl)) (pa_cons (pe_fld (pv 0) rfl) (pa_cons (pe_tup (StX.pa_star (pe_fld (pv 0) rfl) (pa_cons (pv 1) pa_nil))) (pa_cons (pe_fld (pv 0) rfl) pa_nil))))), ?_⟩
    obtain ⟨dx, ca, da, xs, ys, h1, h2, h3, h4, h5⟩ := ha.ob
    have l1 : cs.length ≤ 6 := by obtain ⟨ps, e, l, _⟩ := condDue_none ha.cd; have := congrArg (Option.map List.length) e; simp at this; omega
    have q1 := Paired.length h4
    refine ⟨_, rfl, a, _, dx, _, _, rfl, h1, QX.cl, QX.no _ (.head _), clFs_k _ _ _, _, rfl, a, _, dx, _, _, rfl, h1, QX.cl, QX.no _ (.tail _ (.head _)), clFs_c _ _ _, ca, xs, rfl, .inl h2.sq, _, rfl, ?_⟩
    dsimp only [tNil]
    refine ⟨Nat.le_of_lt (line2 (by simp; omega)), fun q hq => ?_⟩
    have sq := sameUpd (o := .tup (xs ++ [y])) (Same.refl H) hq
    refine ⟨_, rfl, a, _, dx, _, _, rfl, sq _ _ h1, QX.cl, QX.no _ (.tail _ (.tail _ (.head _))), clFs_h _ _ _, fun x dx' hx hdx ne => ?_⟩
    have sN : Same (upd H q (.tup (xs ++ [y]))) (wo x (upd (upd (upd H q (.tup (xs ++ [y]))) dx' (.own x)) x (.ins CC dx' []))) := fun b u e => wo_at (by rw [upd_ne (ne_of_none e hx), upd_ne (ne_of_none e hdx)]; exact e) (ne_of_none e hx)
    have s0N := sq.trans sN
    have x0 : H x = none := sq.free hx
    have pr : Paired (ItemIs Cs H) (xs ++ [y]) (cs.map some ++ [o]) := paired_app (pc_items h4) hy
    refine ⟨x, dx', .str z, .ref q, .ref da, "str", some (cs.map some ++ [o]), some (ds.map some), rfl, upd_same, lab_thing ha.lab, .seq (.tup (sN _ _ upd_same)) (pr_imp pr fun _ _ q => q.keep s0N) (by simp; omega), .seq (h3.keep s0N).seq (pr_imp (pc_items h5) fun _ _ q => q.keep s0N) (by have l2 : ds.length ≤ 8 := (by obtain ⟨ps, e, l, _⟩ := chgDue_none ha.hd; have := congrArg (Option.map List.length) e; simp at this; omega); have := Paired.length h5; omega), ?_⟩
    have due : clDue (.str z) (some (cs.map some ++ [o])) (some (ds.map some)) = condDue (some (cs.map some ++ [o])) := by
      unfold clDue
      rw [show labV (.str z) = true from ha.lab, if_pos rfl, ha.hd]
      cases condDue (some (cs.map some ++ [o])) <;> rfl
    rw [due]
    have out : ∀ H', Keep (upd (upd (upd H q (.tup (xs ++ [y]))) dx' (.own x)) x (.ins CC dx' [])) H' x → Same H H' := fun H' kp b u e => kp b u (by have e2 := sq _ _ e; rw [upd_ne (ne_of_none e2 hx), upd_ne (ne_of_none e2 hdx)]; exact e2) (ne_of_none e x0)
    cases e : condDue (some (cs.map some ++ [o])) with
    | some r =>
      obtain ⟨i, w'⟩ := r
      rw [e] at k
      refine fun d H' hd kp ed => k d H' ?_ (out H' kp) ed
      have d1 := (none2 hd).1
      have d2 := (none2 d1).1
      exact sq.free d2
    | none =>
      rw [e] at k
      intro z' cs' ds' H' e1 e2 e3 kp cl
      cases e1
      obtain ⟨ps, e4, _, _⟩ := condDue_none e
      have e5 : cs.map some ++ [o] = cs'.map some := Option.some.inj e2
      have e6 : ds = ds' := by
        have := Option.some.inj e3
        exact map_some_inj this
      subst e6
      have ln : cs'.length = cs.length + 1 := by have := congrArg List.length e5; simp at this; omega
      have el : ∃ p, cs' = cs ++ [p] ∧ o = some p := by
        refine ⟨cs'[cs.length]'(by omega), ?_, ?_⟩
        · refine map_some_inj ?_
          rw [← e5, map_app]
          have g := congrArg (fun l => l[cs.length]?) e5
          simp at g
          rw [List.getElem?_eq_getElem (by omega)] at g
          rw [List.append_cancel_left_eq]
          simpa using g
        · have g := congrArg (fun l => l[cs.length]?) e5
          simp at g
          rw [List.getElem?_eq_getElem (by omega)] at g
          simpa using g
      obtain ⟨p, rfl, ep⟩ := el
      exact ⟨rfl, k x p H' ep x0 (out H' kp) cl⟩
end
end Kx

set_option maxHeartbeats 8000000
namespace Kx
open PySem L2
theorem zip_no {f : Str} : ∀ {fs : List Str} {xs : List V}, f ∉ fs → (fs.zip xs).lookup f = none
  | [], _, _ => rfl
  | _ :: _, [], _ => rfl
  | g :: fs, x :: xs, h => by
    have h1 : ¬ f = g := fun e => h (by rw [e]; exact .head _)
    have hb : (f == g) = false := beq_eq_false_iff_ne.mpr h1
    show List.lookup f ((g, x) :: fs.zip xs) = none
    simp only [List.lookup, hb]
    exact zip_no fun m => h (.tail _ m)
theorem no_opp : ∀ k : Pk, Str.ofString "opposite" ∉ k.names := by
  intro k
  cases k <;> decide +kernel
section
variable {P : Program} {w : World} {K : PySem.W.Frag} {mg : Str → Option Value} {base : Heap}
def OpM (P : Program) (w : World) (K : PySem.W.Frag) (mg : Str → Option Value) (base : Heap) (Cs : Pk → Addr) : Prop := ∀ k : Pk, k.cond = true → ∃ g fd, OwnM P w K mg base (Cs k) "opposite" 6 ["self"] (spOpp Cs k) g fd
abbrev tOpp (Cs : Pk → Addr) (i : Nat) (E : XK) : {k : Pk // k.cond = true} → TE := fun k => tMeth (Cs k.1) "opposite" (spOpp Cs k.1) [] E (tVar i) tNil
theorem scSplit : FnScope ["self", "condition", "held"] ["self", "condition"] (defScope sClause_split) := ⟨rfl, rfl, rfl, by decide +kernel, rfl, by decide +kernel, by decide +kernel⟩
theorem ok_split {f CC CB gW : Addr} {fd fdW : FuncData} {Cs : Pk → Addr} (F : Fun K "split" "Clause.split" sClause_split f fd) (PC : PkC K Cs) (QX : QC K CC ["kind", "conditions", "changes"]) (MW : Meth K CC "with_condition" gW) (GW : FnOk P w K mg base (L2.CX P w) 6 gW fdW ["self", "condition"] (spWith K Cs CC CB)) (bW : Binds K fdW ["self", "condition"] []) (OM : OpM P w K mg base Cs) :
    FnOk P w K mg base (L2.CX P w) 7 f fd ["self", "condition"] (spSplit K Cs CC CB) := by
  refine F.okX scSplit (fun vs H Q E h => ?_) (fun cdv A outer s H vs Q E hr h => ?_)
  · obtain ⟨a, y, z, cs, ds, o, rfl, _⟩ := h
    rfl
  · obtain ⟨a, y, z, cs, ds, o, rfl, ha, hy, k⟩ := h
    refine ⟨_, (pss_cons (ps_set (i := 2) scSplit.nd rfl (Or.inl rfl) (pe_methW (pv 0) QX.cl MW GW hr bW (passAt (takes_of rfl rfl rfl rfl)) (pa_cons (pv 1) pa_nil)))
    (pss_one (ps_ret (pe_tup (pa_cons (pv 2) (pa_cons (pe_methW (pv 0) QX.cl MW GW hr bW (passAt (takes_of rfl rfl rfl rfl)) (pa_cons (pe_ex (t := tOpp Cs 1 E0) (fun k => by
        obtain ⟨g, fd, O⟩ := OM k.1 k.2
        exact pe_meth0 (pv 1) (PC.q _).cl O.M O.G hr O.b .nil pass0)) pa_nil)) pa_nil)))))), ?_⟩
    have ob := ha.ob
    obtain ⟨dx, ca, da, xs, ys, h1, _, _, _, _⟩ := ob
    have nW : (clFs z ca da).lookup (Str.ofString "with_condition") = none := clFs_no _ _ _ (by decide +kernel) (by decide +kernel) (by decide +kernel)
    refine ⟨_, rfl, a, dx, _, rfl, h1, nW, _, rfl, a, y, z, cs, ds, o, rfl, ha, hy, ?_⟩
    cases e : condDue (some (cs.map some ++ [o])) with
    | some r =>
      obtain ⟨i, w'⟩ := r
      rw [e] at k
      exact k
    | none =>
      rw [e] at k
      intro b p H1 eo hb s1 cb
      subst eo
      have k := k p rfl
      cases hy with
      | pc hp =>
      rename_i c
      obtain ⟨dp, ep⟩ := hp.ob
      have hc : p.1.cond = true := by
        obtain ⟨ps, e4, _, g⟩ := condDue_none e
        have : ps = cs ++ [p] := map_some_inj (by rw [map_app]; exact (Option.some.inj e4).symm)
        exact g p (by rw [this]; simp)
      refine ⟨_, rfl, _, rfl, a, dx, _, rfl, s1 _ _ h1, nW, ⟨p.1, hc⟩, _, rfl, c, dp, _, rfl, s1 _ _ ep, zip_no (no_opp _), ?_⟩
      refine ⟨c, p.2, rfl, hp.keep s1, fun c2 H2 hc2 s2 hp2 => ?_⟩
      have s12 := s1.trans s2
      refine ⟨a, .ref c2, z, cs, ds, some (oppP p), rfl, ha.keep s12, .pc hp2, ?_⟩
      rw [← map_app]
      cases e2 : condDue (some ((cs ++ [oppP p]).map some)) with
      | some r =>
        obtain ⟨i, w'⟩ := r
        rw [e2] at k
        exact fun d H' hd s3 ed => k d H' (s12.free hd) (s12.trans s3) ed
      | none =>
        rw [e2] at k
        intro b2 p2 H3 eo hb2 s3 cb2
        cases eo
        refine ⟨(by show 2 ≤ sizeLine; decide), fun t ht => ?_⟩
        have s4 := sameUpd (o := .tup [V.ref b, V.ref b2]) (Same.refl H3) ht
        exact k t b b2 _ ((s12.trans s3).trans s4) ((s12.trans s3).free ht) upd_same (cb.keep ((s2.trans s3).trans s4)) (cb2.keep s4)
end
end Kx

set_option maxHeartbeats 8000000
namespace Kx
open PySem L2
/-! words and labels that are drawn -/
theorem atI0 (x : V) (xs : List V) : atI (x :: xs) 0 = some x := by
  simp [atI, ixN]
theorem lab_of {z : Str} (l : Low z) (h1 : 1 ≤ z.length) (h6 : z.length ≤ 6) : isLab z = true := by
  unfold isLab
  rw [decide_eq_true h1, decide_eq_true h6]
  show z.cps.toList.all isLow = true
  refine List.all_eq_true.mpr fun c m => ?_
  have q := l c m
  unfold isLow
  rw [decide_eq_true q.1, decide_eq_true q.2]
  rfl
def spLetters : Sp := fun vs H Q _ => ∃ (p q : Addr), vs = [.ref p] ∧ HandAt H p q ∧ ∀ z H', isLab z = true → HandAt H' p q → Keep H H' p → Q (.str z) H'
section
variable {P : Program} {w : World} {K : PySem.W.Frag} {mg : Str → Option Value} {base : Heap}
abbrev HDraw (P : Program) (w : World) (K : PySem.W.Frag) (mg : Str → Option Value) (base : Heap) : Prop := HasF P w K mg base "_law_draw" 2 ["_law_hand_here", "_law_many"] spDraw
theorem scLetters : FnScope ["_law_hand_here", "_law_word", "_law_k"] ["_law_hand_here"] (defScope sLLetters) := ⟨rfl, rfl, rfl, by decide +kernel, rfl, by decide +kernel, by decide +kernel⟩
theorem ok_letters {f : Addr} {fd : FuncData} (F : Fun K "_law_letters" "_law_letters" sLLetters f fd) (m : mg "_law_letters" = some (.ref f)) (T : Bl mg) (D : HDraw P w K mg base) : HasF P w K mg base "_law_letters" 3 ["_law_hand_here"] spLetters := by
  refine ⟨f, fd, ?_, m, F.kp, F.binds fun _ _ _ _ _ _ us hl => by obtain ⟨_, rfl⟩ := us1 hl; exact rfl⟩
  obtain ⟨f1, fd1, D⟩ := D
  refine F.ok scLetters (fun vs H Q E h => ?_) (fun cdv A outer s H vs Q E hr h => ?_)
  · obtain ⟨a, b, rfl, _⟩ := h
    rfl
  · obtain ⟨p, q, rfl, hp, k⟩ := h
    refine ⟨_, pss_cons (ps_set (i := 1) scLetters.nd rfl (Or.inl rfl) pe_str)
      (pss_cons (ps_for PassesOwn.never rfl (pi_range1 (by rfl) T.range (pa_cons (pe_op op_add pe_int (pe_call D.G hr (by rfl) D.m D.kp D.b .nil pass0 (pa_cons (pv 0) (pa_cons pe_int pa_nil)))) pa_nil)) (pg_name (i := 2) scLetters.nd rfl (.inl rfl))
        (pss_one (ps_set (i := 1) scLetters.nd rfl (Or.inl rfl) (pe_op op_add_str (pv 1) (pe_ix ix_str pe_str (pe_call D.G hr (by rfl) D.m D.kp D.b .nil pass0 (pa_cons (pv 0) (pa_cons pe_int pa_nil))) (fun _ _ => rfl))))))
      (pss_one (ps_ret (pv 1)))), ?_⟩
    refine ⟨_, rfl, p, q, 6, rfl, hp, by decide, by decide, fun z H1 z0 z1 hp1 k1 => ?_⟩
    refine ⟨_, _, rfl, rfl, _, rfl, by omega, by omega, for_range (n := (1 + z).toNat) (fun i σ H2 => ∃ (t : Str) (x : Option V), σ = [some (.ref p), some (.str t), x] ∧ t.length = i ∧ Low t ∧ HandAt H2 p q ∧ Keep H H2 p)
      ⟨_, _, rfl, rfl, Low.nil, hp1, k1⟩ ?_ ?_⟩
    · rintro i σ H2 hi ⟨t, x, rfl, ht, lt, hp2, k2⟩
      refine ⟨_, rfl, _, rfl, p, q, 26, rfl, hp2, by decide, by decide, fun y H3 y0 y1 hp3 k3 => ?_⟩
      refine ⟨_, y, _, rfl, rfl, by decide, abc_ix y0 y1, _, _, rfl, rfl, ?_, ?_⟩
      · show t.length + 1 ≤ sizeLine
        exact small1000 (by omega)
      · exact ⟨_, _, rfl, by rw [len_app, ht]; rfl, lt.app (Low.one (by omega)), hp3, k2.trans k3⟩
    · rintro σ H2 ⟨t, x, rfl, ht, lt, hp2, k2⟩
      exact ⟨_, rfl, k t H2 (lab_of lt (by omega) (by omega)) hp2 k2⟩
end
end Kx


set_option maxHeartbeats 8000000
namespace Kx
open PySem L2
def intV (x : V) : Bool := match x with
  | .int _ => true
  | _ => false
def spLWhole : Sp := fun vs H Q _ => ∃ (x : V) (n : String), vs = [x] ∧ Kd H x n ∧ Q (.bl (intV x)) H
theorem atI1 (x y : V) (xs : List V) : atI (x :: y :: xs) 1 = some y := by
  simp [atI, ixN]
  rw [if_pos (by omega)]
  rfl
theorem atI2 (x y z : V) (xs : List V) : atI (x :: y :: z :: xs) 2 = some z := by
  simp [atI, ixN]
  rw [if_pos (by omega)]
  rfl
section
variable {P : Program} {w : World} {K : PySem.W.Frag} {mg : Str → Option Value} {base : Heap}
theorem scLWhole : FnScope ["_law_thing_here"] ["_law_thing_here"] (defScope sLWhole) := ⟨rfl, rfl, rfl, by decide +kernel, rfl, by decide +kernel, by decide +kernel⟩
theorem ok_lwhole {f : Addr} {fd : FuncData} (F : Fun K "_law_whole" "_law_whole" sLWhole f fd) (m : mg "_law_whole" = some (.ref f)) (T : Bl mg) (B : Bm mg) : HasF P w K mg base "_law_whole" 1 ["_law_thing_here"] spLWhole := by
  refine ⟨f, fd, ?_, m, F.kp, F.binds fun _ _ _ _ _ _ us hl => by obtain ⟨_, rfl⟩ := us1 hl; exact rfl⟩
  refine F.ok scLWhole (fun vs H Q E h => ?_) (fun cdv A outer s H vs Q E hr h => ?_)
  · obtain ⟨a, b, rfl, _⟩ := h
    rfl
  · obtain ⟨x, n, rfl, hk, k⟩ := h
    refine ⟨_, pss_one (ps_ret (pe_and (pe_callB call_isi (by rfl) B.isinstance (by decide +kernel) (pa_cons (pv 0) (pa_cons (pe_bltn (v := .ty "int") (by rfl) T.int (by decide +kernel) rfl) pa_nil))) (pe_one (pe_not (pe_callB call_isi (by rfl) B.isinstance (by decide +kernel) (pa_cons (pv 0) (pa_cons (pe_bltn (v := .ty "bool") (by rfl) B.bool (by decide +kernel) rfl) pa_nil))))))), ?_⟩
    refine ⟨_, rfl, x, _, _, _, _, rfl, .ty _, hk.ty, kit_ty (kit_int hk.kits), _, rfl, ?_⟩
    cases hk with
    | int i => exact iteT ⟨_, rfl, .int i, _, _, _, _, rfl, .ty _, (Kd.int (H := H) i).ty, kit_ty (kit_bool (Kd.int (H := H) i).kits), _, rfl, k⟩
    | bl b => exact iteT ⟨_, rfl, .bl b, _, _, _, _, rfl, .ty _, (Kd.bl (H := H) b).ty, kit_ty (kit_bool (Kd.bl (H := H) b).kits), _, rfl, k⟩
    | non => exact iteF k
    | str z => exact iteF k
    | lst a xs h => exact iteF k
    | tup a xs h => exact iteF k
    | dct a xs h => exact iteF k
end
end Kx


set_option maxHeartbeats 8000000
namespace Kx
open PySem L2
/-! the parts of a stand that are drawn: new things, lists alone -/
section
variable {b1 b2 p q : Addr} {xs ys : List V} {H0 Hs H : Hp}
end
/-- a thing without an address -/
def FlatT (x : V) : Prop := ∃ n, ∀ N : Hp, Thing N x n
theorem flat_str {z : Str} (h : (PyData.strOk z && decide (z.length ≤ 900)) = true) : FlatT (.str z) := ⟨"str", fun N => ⟨.str z, fun y e => by
  cases e
  rw [Bool.and_eq_true, decide_eq_true_eq] at h
  exact h⟩⟩
theorem flat_non : FlatT .non := ⟨_, fun N => ⟨.non, fun z e => nomatch e⟩⟩
theorem flat_int (i : Int) : FlatT (.int i) := ⟨_, fun N => ⟨.int i, fun z e => nomatch e⟩⟩
theorem flat_bl (b : Bool) : FlatT (.bl b) := ⟨_, fun N => ⟨.bl b, fun z e => nomatch e⟩⟩
section
variable {P : Program} {w : World} {K : PySem.W.Frag} {mg : Str → Option Value} {base : Heap}
end
end Kx


set_option maxHeartbeats 8000000
namespace Kx
open PySem L2
/-- a drawn thing -/
def spThing : Sp := fun vs H Q _ => ∃ (p q : Addr), vs = [.ref p] ∧ HandAt H p q ∧ ∀ x n H', Thing (wo p H') x n → HandAt H' p q → Keep H H' p → Q x H'
section
variable {P : Program} {w : World} {K : PySem.W.Frag} {mg : Str → Option Value} {base : Heap}
theorem scThing : FnScope ["_law_hand_here", "_law_way"] ["_law_hand_here"] (defScope sLThing) := ⟨rfl, rfl, rfl, by decide +kernel, rfl, by decide +kernel, by decide +kernel⟩
theorem ok_thing {f : Addr} {fd : FuncData} (F : Fun K "_law_thing" "_law_thing" sLThing f fd) (m : mg "_law_thing" = some (.ref f)) (D : HDraw P w K mg base) (O : HasF P w K mg base "_law_one" 3 ["_law_hand_here", "_law_rows"] spOne) (L : HasF P w K mg base "_law_letters" 3 ["_law_hand_here"] spLetters) : HasF P w K mg base "_law_thing" 4 ["_law_hand_here"] spThing := by
  refine ⟨f, fd, ?_, m, F.kp, F.binds fun _ _ _ _ _ _ us hl => by obtain ⟨_, rfl⟩ := us1 hl; exact rfl⟩
  obtain ⟨f1, fd1, D⟩ := D; obtain ⟨f2, fd2, O⟩ := O; obtain ⟨f3, fd3, L⟩ := L
  refine F.ok scThing (fun vs H Q E h => ?_) (fun cdv A outer s H vs Q E hr h => ?_)
  · obtain ⟨a, b, rfl, _⟩ := h
    rfl
  · obtain ⟨p, q, rfl, hp, k⟩ := h
    have hr2 : Room 2 _ := hr.mono (by decide)
    refine ⟨_, (pss_cons (ps_set (i := 1) scThing.nd rfl (Or.inl rfl) (pe_call D.G hr2 (by rfl) D.m D.kp D.b .nil pass0 (pa_cons (pv 0) (pa_cons pe_int pa_nil))))
    (pss_cons (ps_if (pt_cmpR op_eq (pv 1) pe_int (nomark _)) (pss_one (ps_ret (pe_call O.G hr (by rfl) O.m O.kp O.b .nil pass0 (pa_cons (pv 0) (pa_cons (pe_lst (pa_cons pe_str (pa_cons pe_str (pa_cons pe_str (pa_cons pe_str (pa_cons pe_str (pa_cons pe_non (pa_cons pe_int (pa_cons pe_bl (pa_cons (pe_lst (pa_cons pe_str pa_nil)) (pa_cons (pe_tup (pa_cons pe_str pa_nil)) pa_nil))))))))))) pa_nil))))) pss_nil)
    (pss_cons (ps_if (pt_cmpR op_lt (pv 1) pe_int (nomark _)) (pss_one (ps_ret (pe_call O.G hr (by rfl) O.m O.kp O.b .nil pass0 (pa_cons (pv 0) (pa_cons (pe_lst (pa_cons pe_str (pa_cons pe_str (pa_cons pe_str (pa_cons pe_str pa_nil))))) pa_nil))))) pss_nil)
    (pss_one (ps_ret (pe_ifExp (pt_cmpR op_lt (pv 1) pe_int (nomark _)) (pe_call L.G hr (by rfl) L.m L.kp L.b .nil pass0 (pa_cons (pv 0) pa_nil)) (pe_call O.G hr (by rfl) O.m O.kp O.b .nil pass0 (pa_cons (pv 0) (pa_cons (pe_lst (pa_cons pe_str (pa_cons pe_str pa_nil))) pa_nil))))))))), ?_⟩
    refine ⟨_, rfl, p, q, 6, rfl, hp, by decide, by decide, fun z H1 z0 z1 hp1 k1 => ?_⟩
    have done : ∀ {x : V} {H' : Hp}, FlatT x → HandAt H' p q → Keep H H' p → Q x H' := fun ⟨n, t⟩ hp' k' => k _ n _ (t _) hp' k'
    refine ⟨_, rfl, rfl, _, rfl, ?_⟩
    refine ite2 (fun _ => ?_) (fun _ => ?_)
    · refine ⟨_, rfl, (by show 1 ≤ sizeLine; decide), fun l1 h1 => ⟨(by show 1 ≤ sizeLine; decide), fun t1 h2 => ⟨(by show 10 ≤ sizeLine; decide), fun l hl => ?_⟩⟩⟩
      have s1 := sameUpd (o := .lst [V.str "a"]) (Same.refl H1) h1
      have s2 := sameUpd (o := .tup [V.str "a"]) s1 h2
      have hp2 := hp1.same s2
      generalize eL : [V.str "", V.str "B", V.str "abcdefg", V.str "a ", V.str "a1", V.non, V.int 5, V.bl true, V.ref l1, V.ref t1] = L
      have s3 := sameUpd (o := .lst L) s2 hl
      refine ⟨p, q, l, L, rfl, hp1.same s3, upd_same, hp2.ap hl, (by rw [← eL]; show 0 < 10; decide), (by rw [← eL]; show 10 ≤ 1000; decide), fun x H' hx hp' k' => ?_⟩
      have kH : Keep H H' p := fun b o e ne => k' b o (s3 b o (k1 b o e ne)) ne
      have l1p : l1 ≠ p := hp1.ap h1
      have t1p : t1 ≠ p := (hp1.same s1).ap h2
      have n2 : l1 ≠ t1 := ne_of_none upd_same h2
      have e1 : H' l1 = some (.lst [V.str "a"]) := k' _ _ (by rw [upd_ne (ne_of_none (by rw [upd_ne n2]; exact upd_same) hl), upd_ne n2]; exact upd_same) l1p
      have e2 : H' t1 = some (.tup [V.str "a"]) := k' _ _ (by rw [upd_ne (ne_of_none upd_same hl)]; exact upd_same) t1p
      rw [← eL] at hx
      simp only [List.mem_cons, List.not_mem_nil, or_false] at hx
      rcases hx with e | e | e | e | e | e | e | e | e | e <;> subst e
      · exact done (flat_str (by decide +kernel)) hp' kH
      · exact done (flat_str (by decide +kernel)) hp' kH
      · exact done (flat_str (by decide +kernel)) hp' kH
      · exact done (flat_str (by decide +kernel)) hp' kH
      · exact done (flat_str (by decide +kernel)) hp' kH
      · exact done flat_non hp' kH
      · exact done (flat_int _) hp' kH
      · exact done (flat_bl _) hp' kH
      · exact k _ _ _ ⟨.lst l1 _ (wo_at e1 l1p), fun z e => nomatch e⟩ hp' kH
      · exact k _ _ _ ⟨.tup t1 _ (wo_at e2 t1p), fun z e => nomatch e⟩ hp' kH
    · refine ⟨_, rfl, _, _, rfl, rfl, _, rfl, ?_⟩
      refine ite2 (fun _ => ?_) (fun _ => ?_)
      · refine ⟨_, rfl, (by show 4 ≤ sizeLine; decide), fun l hl => ?_⟩
        have s3 := sameUpd (o := .lst [V.str "first", V.str "second", V.str "nobody", V.str "year"]) (Same.refl H1) hl
        refine ⟨p, q, l, _, rfl, hp1.same s3, upd_same, hp1.ap hl, by decide, by decide, fun x H' hx hp' k' => ?_⟩
        have kH : Keep H H' p := fun b o e ne => k' b o (s3 b o (k1 b o e ne)) ne
        simp only [List.mem_cons, List.not_mem_nil, or_false] at hx
        rcases hx with e | e | e | e <;> subst e <;> exact done (flat_str (by decide +kernel)) hp' kH
      · refine ⟨_, rfl, _, _, rfl, rfl, _, rfl, ?_⟩
        refine ite2 (fun _ => ?_) (fun _ => ?_)
        · refine ⟨_, rfl, p, q, rfl, hp1, fun z H' hz hp' k' => ?_⟩
          exact k _ _ _ (lab_thing hz) hp' (k1.trans k')
        · refine ⟨_, rfl, (by show 2 ≤ sizeLine; decide), fun l hl => ?_⟩
          have s3 := sameUpd (o := .lst [V.str "use", V.str "owner"]) (Same.refl H1) hl
          refine ⟨p, q, l, _, rfl, hp1.same s3, upd_same, hp1.ap hl, by decide, by decide, fun x H' hx hp' k' => ?_⟩
          have kH : Keep H H' p := fun b o e ne => k' b o (s3 b o (k1 b o e ne)) ne
          simp only [List.mem_cons, List.not_mem_nil, or_false] at hx
          rcases hx with e | e <;> subst e <;> exact done (flat_str (by decide +kernel)) hp' kH
theorem scNumber : FnScope ["_law_hand_here"] ["_law_hand_here"] (defScope sLNumber) := ⟨rfl, rfl, rfl, by decide +kernel, rfl, by decide +kernel, by decide +kernel⟩
theorem ok_number {f : Addr} {fd : FuncData} (F : Fun K "_law_number" "_law_number" sLNumber f fd) (m : mg "_law_number" = some (.ref f)) (D : HDraw P w K mg base) (O : HasF P w K mg base "_law_one" 3 ["_law_hand_here", "_law_rows"] spOne) : HasF P w K mg base "_law_number" 4 ["_law_hand_here"] spThing := by
  refine ⟨f, fd, ?_, m, F.kp, F.binds fun _ _ _ _ _ _ us hl => by obtain ⟨_, rfl⟩ := us1 hl; exact rfl⟩
  obtain ⟨f1, fd1, D⟩ := D; obtain ⟨f2, fd2, O⟩ := O
  refine F.ok scNumber (fun vs H Q E h => ?_) (fun cdv A outer s H vs Q E hr h => ?_)
  · obtain ⟨a, b, rfl, _⟩ := h
    rfl
  · obtain ⟨p, q, rfl, hp, k⟩ := h
    have hr2 : Room 2 _ := hr.mono (by decide)
    refine ⟨_, pss_one (ps_ret (pe_call O.G hr (by rfl) O.m O.kp O.b .nil pass0 (pa_cons (pv 0) (pa_cons (pe_lst (pa_cons pe_int (pa_cons pe_int (pa_cons pe_int (pa_cons pe_int (pa_cons (pe_un un_neg pe_int) (pa_cons pe_bl (pa_cons pe_non (pa_cons pe_str (pa_cons (pe_op op_add pe_int (pe_call D.G hr2 (by rfl) D.m D.kp D.b .nil pass0 (pa_cons (pv 0) (pa_cons pe_int pa_nil)))) (pa_cons (pe_op op_add pe_int (pe_call D.G hr2 (by rfl) D.m D.kp D.b .nil pass0 (pa_cons (pv 0) (pa_cons pe_int pa_nil)))) pa_nil))))))))))) pa_nil)))), ?_⟩
    refine ⟨_, rfl, _, rfl, _, rfl, p, q, 40, rfl, hp, by decide, by decide, fun y H1 y0 y1 hp1 k1 => ?_⟩
    refine ⟨_, _, rfl, rfl, _, rfl, p, q, 40, rfl, hp1, by decide, by decide, fun u H2 u0 u1 hp2 k2 => ?_⟩
    refine ⟨_, _, rfl, rfl, (by show 10 ≤ sizeLine; decide), fun l hl => ?_⟩
    generalize eL : [V.int 1, V.int 40, V.int 0, V.int 41, V.int (-1), V.bl true, V.non, V.str "1", V.int (1 + y), V.int (1 + u)] = L
    have s3 := sameUpd (o := .lst L) (Same.refl H2) hl
    refine ⟨p, q, l, L, rfl, hp2.same s3, upd_same, hp2.ap hl, (by rw [← eL]; show 0 < 10; decide), (by rw [← eL]; show 10 ≤ 1000; decide), fun x H' hx hp' k' => ?_⟩
    have kH : Keep H H' p := fun b o e ne => k' b o (s3 b o (k2 b o (k1 b o e ne) ne)) ne
    have done : FlatT x → Q x H' := fun ⟨n, t⟩ => k _ n _ (t _) hp' kH
    rw [← eL] at hx
    simp only [List.mem_cons, List.not_mem_nil, or_false] at hx
    rcases hx with e | e | e | e | e | e | e | e | e | e <;> subst e
    · exact done (flat_int _)
    · exact done (flat_int _)
    · exact done (flat_int _)
    · exact done (flat_int _)
    · exact done (flat_int _)
    · exact done (flat_bl _)
    · exact done flat_non
    · exact done (flat_str (by decide +kernel))
    · exact done (flat_int _)
    · exact done (flat_int _)
end
end Kx

set_option maxHeartbeats 8000000
namespace Kx
open PySem L2
def tStrs : List Str → TA
  | [] => tNil
  | s :: ss => tCons (tC (V.str s)) (tStrs ss)
theorem strs_read : ∀ {ss : List Str} {σ : L2.St} {H : Hp} {Q : List V → Hp → Prop}, Q (ss.map V.str) H → tStrs ss σ H Q
  | [], _, _, _, h => h
  | s :: ss, σ, H, Q, h => by
    show tStrs ss σ H fun ys H2 => Q (V.str s :: ys) H2
    exact strs_read h
/-- a word with the names of its attributes -/
def WordAt (N : Hp) (x : V) (k : Pk) : Prop := ∃ t n, x = .ref t ∧ N t = some (.tup [.str k.word, .ref n]) ∧ N n = some (.lst (k.names.map V.str))
theorem WordAt.keep {H H' : Hp} {x : V} {k : Pk} (h : WordAt H x k) (s : Same H H') : WordAt H' x k := by
  obtain ⟨t, n, e, h1, h2⟩ := h
  exact ⟨t, n, e, s _ _ h1, s _ _ h2⟩
abbrev tWd (k : Pk) : TE := tTup (tCons (tC (V.str k.word)) (tCons (tLst (tStrs k.names)) tNil))
theorem wd_len (k : Pk) : (k.names.map V.str).length ≤ sizeLine := by
  cases k <;> decide
theorem wd_read {k : Pk} {σ : L2.St} {H0 H : Hp} {Q : VK} (s : Same H0 H) (h : ∀ x H', Same H H' → WordAt (nw H0 H') x k → Q x H') : tWd k σ H Q := by
  show tStrs k.names σ H fun ys H2 => ys.length ≤ sizeLine ∧ ∀ n, H2 n = none → 2 ≤ sizeLine ∧ ∀ t, upd H2 n (.lst ys) t = none → Q (.ref t) (upd (upd H2 n (.lst ys)) t (.tup [.str k.word, .ref n]))
  refine strs_read ⟨wd_len k, fun n hn => ⟨by decide, fun t ht => ?_⟩⟩
  have s1 := sameUpd (o := .lst (k.names.map V.str)) (Same.refl H) hn
  have s2 := sameUpd (o := .tup [.str k.word, .ref n]) s1 ht
  have nt : n ≠ t := ne_of_none upd_same ht
  exact h _ _ s2 ⟨t, n, rfl, nw_at (s.free (s1.free ht)) upd_same, nw_at (s.free hn) (by rw [upd_ne nt]; exact upd_same)⟩
def tWds : List Pk → TA
  | [] => tNil
  | k :: ks => tCons (tWd k) (tWds ks)
theorem nw_same {H0 H H' : Hp} (s : Same H H') : Same (nw H0 H) (nw H0 H') := fun b o e => by
  obtain ⟨e0, e1⟩ := nw_get e
  exact nw_at e0 (s _ _ e1)
theorem wds_read {H0 : Hp} : ∀ {ks : List Pk} {σ : L2.St} {H : Hp} {Q : List V → Hp → Prop}, Same H0 H → (∀ xs H', Same H H' → xs.length = ks.length → (∀ x ∈ xs, ∃ k, WordAt (nw H0 H') x k) → Q xs H') → tWds ks σ H Q
  | [], _, H, _, _, h => h [] H (Same.refl _) rfl fun x m => nomatch m
  | k :: ks, σ, H, Q, s, h => by
    show tWd k σ H fun x H1 => tWds ks σ H1 fun ys H2 => Q (x :: ys) H2
    refine wd_read s fun x H1 s1 w1 => wds_read (s.trans s1) fun xs H2 s2 l2 w2 => h (x :: xs) H2 (s1.trans s2) (by simp [l2]) fun y m => ?_
    rcases List.mem_cons.mp m with rfl | m
    · exact ⟨k, w1.keep (nw_same s2)⟩
    · exact w2 y m
theorem wds_lst {H0 : Hp} {ks : List Pk} {σ : L2.St} {H : Hp} {Q : VK} (s : Same H0 H) (lk : ks.length ≤ 13) (h : ∀ l xs H', Same H H' → nw H0 H' l = some (.lst xs) → xs.length = ks.length → (∀ x ∈ xs, ∃ k, WordAt (nw H0 H') x k) → Q (.ref l) H') : tLst (tWds ks) σ H Q := by
  show tWds ks σ H fun xs H1 => xs.length ≤ sizeLine ∧ ∀ l, H1 l = none → Q (.ref l) (upd H1 l (.lst xs))
  refine wds_read s fun xs H1 s1 l1 w1 => ⟨Nat.le_of_lt (line2 (by omega)), fun l hl => ?_⟩
  have s2 := sameUpd (o := .lst xs) (Same.refl H1) hl
  exact h l xs _ (s1.trans s2) (nw_at ((s.trans s1).free hl) upd_same) l1 fun x m => (w1 x m).imp fun k w => w.keep (nw_same s2)
/-- the thirteen words, new -/
def spWords : Sp := fun vs H Q _ => vs = [] ∧ ∀ l xs H', Same H H' → nw H H' l = some (.lst xs) → xs.length = 13 → (∀ x ∈ xs, ∃ k, WordAt (nw H H') x k) → Q (.ref l) H'
section
variable {P : Program} {w : World} {K : PySem.W.Frag} {mg : Str → Option Value} {base : Heap}
theorem scWords : FnScope ["_law_words_here"] [] (defScope sLWords) := ⟨rfl, rfl, rfl, by decide +kernel, rfl, by decide +kernel, by decide +kernel⟩
theorem ok_words {f : Addr} {fd : FuncData} (F : Fun K "_law_words" "_law_words" sLWords f fd) (m : mg "_law_words" = some (.ref f)) : HasF P w K mg base "_law_words" 1 [] spWords := by
  refine ⟨f, fd, ?_, m, F.kp, F.binds fun _ _ _ _ _ _ us hl => match us, hl with | [], _ => rfl⟩
  refine F.ok scWords (fun vs H Q E h => ?_) (fun cdv A outer s H vs Q E hr h => ?_)
  · obtain ⟨rfl, _⟩ := h
    rfl
  · obtain ⟨rfl, k⟩ := h
    refine ⟨_, (C8.pss_cut (ps_set (i := 0) scWords.nd rfl (Or.inl rfl) (pe_lst (pa_cons (pe_tup (pa_cons pe_str (pa_cons (pe_lst (pa_cons pe_str pa_nil)) pa_nil))) (pa_cons (pe_tup (pa_cons pe_str (pa_cons (pe_lst (pa_cons pe_str pa_nil)) pa_nil))) (pa_cons (pe_tup (pa_cons pe_str (pa_cons (pe_lst (pa_cons pe_str (pa_cons pe_str pa_nil))) pa_nil))) (pa_cons (pe_tup (pa_cons pe_str (pa_cons (pe_lst (pa_cons pe_str (pa_cons pe_str pa_nil))) pa_nil))) pa_nil))))))
    (C8.pss_cut (ps_set (i := 0) scWords.nd rfl (Or.inl rfl) (pe_op op_cat (pv 0) (pe_lst (pa_cons (pe_tup (pa_cons pe_str (pa_cons (pe_lst pa_nil) pa_nil))) (pa_cons (pe_tup (pa_cons pe_str (pa_cons (pe_lst pa_nil) pa_nil))) (pa_cons (pe_tup (pa_cons pe_str (pa_cons (pe_lst (pa_cons pe_str (pa_cons pe_str pa_nil))) pa_nil))) (pa_cons (pe_tup (pa_cons pe_str (pa_cons (pe_lst (pa_cons pe_str (pa_cons pe_str pa_nil))) pa_nil))) pa_nil)))))))
    (pss_one (ps_ret (pe_op op_cat (pv 0) (pe_lst (pa_cons (pe_tup (pa_cons pe_str (pa_cons (pe_lst (pa_cons pe_str pa_nil)) pa_nil))) (pa_cons (pe_tup (pa_cons pe_str (pa_cons (pe_lst (pa_cons pe_str (pa_cons pe_str pa_nil))) pa_nil))) (pa_cons (pe_tup (pa_cons pe_str (pa_cons (pe_lst (pa_cons pe_str pa_nil)) pa_nil))) (pa_cons (pe_tup (pa_cons pe_str (pa_cons (pe_lst (pa_cons pe_str pa_nil)) pa_nil))) (pa_cons (pe_tup (pa_cons pe_str (pa_cons (pe_lst (pa_cons pe_str pa_nil)) pa_nil))) pa_nil))))))))))), ?_⟩
    refine ⟨fun σ H1 => ∃ l xs, σ = [some (.ref l)] ∧ Same H H1 ∧ nw H H1 l = some (.lst xs) ∧ xs.length = 4 ∧ (∀ x ∈ xs, ∃ k, WordAt (nw H H1) x k), ?_, ?_⟩
    · show tLst (tWds [.room, .notroom, .is_, .isnot]) _ _ _
      exact wds_lst (Same.refl _) (by decide) fun l xs H1 s1 h1 l1 w1 => ⟨l, xs, rfl, s1, h1, l1, w1⟩
    rintro σ H1 ⟨l, xs, rfl, s1, h1, l1, w1⟩
    refine ⟨fun σ H1 => ∃ l xs, σ = [some (.ref l)] ∧ Same H H1 ∧ nw H H1 l = some (.lst xs) ∧ xs.length = 8 ∧ (∀ x ∈ xs, ∃ k, WordAt (nw H H1) x k), ?_, ?_⟩
    · refine ⟨_, rfl, ?_⟩
      show tLst (tWds [.same, .apart, .least, .below]) _ _ _
      refine wds_lst s1 (by decide) fun l2 ys H2 s2 h2 l2' w2 => ?_
      refine ⟨l, l2, xs, ys, rfl, rfl, s2 _ _ (nw_get h1).2, (nw_get h2).2, Nat.le_of_lt (line2 (by simp [l1, l2'])), fun l3 h3 => ?_⟩
      have s3 := sameUpd (o := .lst (xs ++ ys)) (Same.refl H2) h3
      have s03 := s1.trans s2
      refine ⟨l3, xs ++ ys, rfl, s03.trans s3, nw_at (s03.free h3) upd_same, by simp [l1, l2'], fun x m => ?_⟩
      rcases List.mem_append.mp m with m | m
      · exact (w1 x m).imp fun k w => w.keep (nw_same (s2.trans s3))
      · exact (w2 x m).imp fun k w => w.keep (nw_same s3)
    rintro σ H1 ⟨l, xs, rfl, s1, h1, l1, w1⟩
    refine ⟨_, rfl, ?_⟩
    show tLst (tWds [.to, .put, .zero, .run, .halt]) _ _ _
    refine wds_lst s1 (by decide) fun l2 ys H2 s2 h2 l2' w2 => ?_
    refine ⟨l, l2, xs, ys, rfl, rfl, s2 _ _ (nw_get h1).2, (nw_get h2).2, Nat.le_of_lt (line2 (by simp [l1, l2'])), fun l3 h3 => ?_⟩
    have s3 := sameUpd (o := .lst (xs ++ ys)) (Same.refl H2) h3
    have s03 := s1.trans s2
    refine k l3 (xs ++ ys) _ (s03.trans s3) (nw_at (s03.free h3) upd_same) (by simp [l1, l2']) fun x m => ?_
    rcases List.mem_append.mp m with m | m
    · exact (w1 x m).imp fun k w => w.keep (nw_same (s2.trans s3))
    · exact (w2 x m).imp fun k w => w.keep (nw_same s3)
end
end Kx

set_option maxHeartbeats 8000000
namespace Kx
open PySem L2
/-- whether a thing is bad for an attribute -/
def badA (first : V) (a : Str) (x : V) : Bool := if a = "number" then !wholeV x 1 40 else (!labV x || ((decide (a = "seat") && inV x (noSeats.map V.str)) || (decide (a = "what") && decide (x = first))))
def pwScan (first : V) : List (Str × V) → Option Str
  | [] => none
  | (a, x) :: r => if badA first a x then some a else pwScan first r
theorem pwScan_step {first : V} {ps : List (Str × V)} {i : Nat} {a : Str} {x : V} (h : ps[i]? = some (a, x)) : pwScan first (ps.drop i) = if badA first a x then some a else pwScan first (ps.drop (i + 1)) := by
  obtain ⟨lt, e⟩ := List.getElem?_eq_some_iff.mp h
  rw [List.drop_eq_getElem_cons lt, e]
  rfl
theorem seatV_in {x : V} (h : labV x = true) : seatV x = !inV x (noSeats.map V.str) := by
  obtain ⟨z, rfl, hz⟩ := lab_str h
  show (isLab z && !decide (z ∈ noSeats)) = _
  rw [hz, inV_strs]
  rfl
theorem e_sn : ¬ (Str.ofString "seat") = Str.ofString "number" := by decide +kernel
theorem e_wn : ¬ (Str.ofString "what") = Str.ofString "number" := by decide +kernel
theorem e_ws : ¬ (Str.ofString "what") = Str.ofString "seat" := by decide +kernel
theorem e_rn : ¬ (Str.ofString "room") = Str.ofString "number" := by decide +kernel
theorem e_rs : ¬ (Str.ofString "room") = Str.ofString "seat" := by decide +kernel
theorem e_rw : ¬ (Str.ofString "room") = Str.ofString "what" := by decide +kernel
theorem e_cn : ¬ (Str.ofString "clock") = Str.ofString "number" := by decide +kernel
theorem e_cs : ¬ (Str.ofString "clock") = Str.ofString "seat" := by decide +kernel
theorem e_cw : ¬ (Str.ofString "clock") = Str.ofString "what" := by decide +kernel
theorem badA_room (f x : V) : badA f "room" x = !labV x := by
  unfold badA
  rw [if_neg e_rn, decide_eq_false e_rs, decide_eq_false e_rw]
  simp
theorem badA_clock (f x : V) : badA f "clock" x = !labV x := by
  unfold badA
  rw [if_neg e_cn, decide_eq_false e_cs, decide_eq_false e_cw]
  simp
theorem badA_seat (f x : V) : badA f "seat" x = !seatV x := by
  unfold badA
  rw [if_neg e_sn, decide_eq_true rfl, decide_eq_false (fun e => e_ws e.symm)]
  cases e : labV x with
  | false =>
    cases q : seatV x with
    | false => rfl
    | true => rw [seatV_lab q] at e; cases e
  | true => rw [seatV_in e]; simp
theorem badA_what (f x : V) : badA f "what" x = !(labV x && !decide (f = x)) := by
  unfold badA
  rw [if_neg e_wn, decide_eq_false e_ws, decide_eq_true rfl]
  by_cases h : x = f
  · subst h; simp
  · simp [h, Ne.symm h]
theorem badA_num (f x : V) : badA f "number" x = !wholeV x 1 40 := if_pos rfl
theorem pw_scan {s : Sh} {args : List V} (h : args.length = s.names.length) : s.pw args = pwScan (args.headD .non) (s.names.zip args) := by
  cases s with
  | r =>
    obtain ⟨x, rfl⟩ := whole_of (s := .r) h
    show (if labV x then none else some (Str.ofString "room")) = if badA x "room" x then some (Str.ofString "room") else none
    rw [badA_room]
    cases labV x <;> rfl
  | k =>
    obtain ⟨x, rfl⟩ := whole_of (s := .k) h
    show (if labV x then none else some (Str.ofString "clock")) = if badA x "clock" x then some (Str.ofString "clock") else none
    rw [badA_clock]
    cases labV x <;> rfl
  | n =>
    have z1 : args = [] := whole_of (s := .n) h
    subst z1
    rfl
  | s =>
    obtain ⟨x, y, rfl⟩ := whole_of (s := .s) h
    show seatW x y = if badA x "seat" x then some (Str.ofString "seat") else if badA x "what" y then some (Str.ofString "what") else none
    unfold seatW
    rw [badA_seat, badA_what]
    cases seatV x with
    | false => rfl
    | true => cases (labV y && !decide (x = y)) <;> rfl
  | c =>
    obtain ⟨x, y, rfl⟩ := whole_of (s := .c) h
    show numW x y = if badA x "clock" x then some (Str.ofString "clock") else if badA x "number" y then some (Str.ofString "number") else none
    unfold numW
    rw [badA_clock, badA_num]
    cases labV x with
    | false => rfl
    | true => cases wholeV y 1 40 <;> rfl
theorem name0 (s : Sh) {a : Str} (h : s.names[0]? = some a) : ¬ a = Str.ofString "number" ∧ ¬ a = Str.ofString "what" := by
  cases s with
  | r => cases h; exact ⟨e_rn, e_rw⟩
  | k => cases h; exact ⟨e_cn, e_cw⟩
  | n => cases h
  | s => cases h; exact ⟨e_sn, fun e => e_ws e.symm⟩
  | c => cases h; exact ⟨e_cn, e_cw⟩
/-- the first word for a row -/
def spPWord : Sp := fun vs H Q _ => ∃ (r n : Addr) (k : Pk) (args : List V), vs = [.ref r, .ref n] ∧ H r = some (.tup (.str k.word :: args)) ∧ H n = some (.lst (k.names.map V.str)) ∧ args.length = k.names.length ∧ Things H args ∧ ∀ H', Same H H' → Q (wordV (k.pw args)) H'
section
variable {P : Program} {w : World} {K : PySem.W.Frag} {mg : Str → Option Value} {base : Heap}
theorem scPWord : FnScope ["_law_row_here", "_law_names", "_law_k", "_law_name", "_law_thing_here"] ["_law_row_here", "_law_names"] (defScope sLPieceWord) := ⟨rfl, rfl, rfl, by decide +kernel, rfl, by decide +kernel, by decide +kernel⟩
theorem ok_pword {f : Addr} {fd : FuncData} (F : Fun K "_law_piece_word" "_law_piece_word" sLPieceWord f fd) (m : mg "_law_piece_word" = some (.ref f)) (T : Bl mg) (W : HasF P w K mg base "_law_whole" 1 ["_law_thing_here"] spLWhole) (L : HasF P w K mg base "_law_label" 1 ["_law_thing_here"] spLLab) : HasF P w K mg base "_law_piece_word" 2 ["_law_row_here", "_law_names"] spPWord := by
  refine ⟨f, fd, ?_, m, F.kp, F.binds fun _ _ _ _ _ _ us hl => by obtain ⟨_, _, rfl⟩ := us2 hl; exact rfl⟩
  obtain ⟨f1, fd1, W⟩ := W; obtain ⟨f2, fd2, L⟩ := L
  refine F.ok scPWord (fun vs H Q E h => ?_) (fun cdv A outer s H vs Q E hr h => ?_)
  · obtain ⟨a, b, c, d, rfl, _⟩ := h
    rfl
  · obtain ⟨r, n, kd, args, rfl, hrow, hn, hl, ta, k⟩ := h
    refine ⟨_, (pss_cons (ps_for PassesOwn.never rfl (pi_enum (by rfl) T.enumerate (pa_cons (pv 1) pa_nil)) (pg_tup rfl (pgs_cons (pg_name (i := 2) scPWord.nd rfl (.inl rfl)) (pgs_cons (pg_name (i := 3) scPWord.nd rfl (.inl rfl)) pgs_nil)))
        (pss_cons (ps_set (i := 4) scPWord.nd rfl (Or.inl rfl) (pe_ix ix_tup (pv 0) (pe_op op_add pe_int (pv 2)) (fun _ _ => rfl)))
    (pss_one (ps_if (pt_cmpR op_eq (pv 3) pe_str (nomark _)) (pss_one (ps_if (PW.pt (pw_or (pt_not (pt_val (pe_call W.G hr (by rfl) W.m W.kp W.b .nil pass0 (pa_cons (pv 4) pa_nil)))) (pw_or1 (pt_not (pt_chain op_le op_le pe_int (pv 4) pe_int))))) (pss_one (ps_ret (pv 3))) pss_nil))
            (pss_one (ps_if (pt_not (pt_val (pe_call L.G hr (by rfl) L.m L.kp L.b .nil pass0 (pa_cons (pv 4) pa_nil)))) (pss_one (ps_ret (pv 3)))
              (pss_one (ps_if (PW.pt (pw_and (pt_cmpR op_eq (pv 3) pe_str (nomark _)) (pw_and1 (pt_cmpR op_in_seq (pv 4) (pe_tup (pa_cons pe_str (pa_cons pe_str (pa_cons pe_str pa_nil)))) (by rfl))))) (pss_one (ps_ret (pv 3)))
                (pss_one (ps_if (PW.pt (pw_and (pt_cmpR op_eq (pv 3) pe_str (nomark _)) (pw_and1 (pt_cmpR op_eq (pv 4) (pe_ix ix_tup (pv 0) pe_int (fun _ _ => rfl)) (nomark _))))) (pss_one (ps_ret (pv 3))) pss_nil))))))))))
    (pss_one (ps_ret pe_non))), ?_⟩
    have ln : (kd.names.map V.str).length = args.length := by rw [List.length_map, hl]
    have due := pw_scan (s := kd.sh) hl
    refine ⟨_, rfl, n, _, rfl, SqL.of hn, for_enum (K := K) (a := n) (xs := kd.names.map V.str) (fun i σ H2 => ∃ v2 v3 v4 : Option V, σ = [some (.ref r), some (.ref n), v2, v3, v4] ∧ Same H H2 ∧ kd.pw args = pwScan (args.headD .non) ((kd.names.zip args).drop i) ∧ (0 < i → ∃ z xs, args = .str z :: xs))
      ⟨none, none, none, rfl, Same.refl _, due, fun z => absurd z (Nat.lt_irrefl _)⟩ (fun i σ H2 ⟨_, _, _, _, s, _⟩ => SqL.of (s _ _ hn)) ?_ ?_⟩
    · rintro i y σ H2 t hi ⟨v2, v3, v4, rfl, s2, sc, a0⟩ ht
      obtain ⟨a, rfl, ea⟩ : ∃ a, y = .str a ∧ kd.names[i]? = some a := by
        rw [List.getElem?_map] at hi
        cases e : kd.names[i]? with
        | none => rw [e] at hi; cases hi
        | some a => rw [e] at hi; exact ⟨a, (Option.some.inj hi).symm, rfl⟩
      have lt : i < kd.names.length := (List.getElem?_eq_some_iff.mp ea).1
      have lt2 : i < args.length := by omega
      obtain ⟨x, ex⟩ : ∃ x, args[i]? = some x := ⟨_, List.getElem?_eq_getElem lt2⟩
      have ez : (kd.names.zip args)[i]? = some (a, x) := by
        rw [List.getElem?_zip_eq_some]
        exact ⟨ea, ex⟩
      rw [pwScan_step ez] at sc
      obtain ⟨nx, tx⟩ := ta x (List.mem_iff_getElem?.mpr ⟨i, ex⟩)
      have s3 : Same H (upd H2 t (.tup [.int (i : Nat), .str a])) := sameUpd s2 ht
      have bad : ∀ H', Same H H' → badA (args.headD .non) a x = true → Q (.str a) H' := fun H' s' e => by
        rw [if_pos e] at sc
        have q := k H' s'
        rw [sc] at q
        exact q
      have good : badA (args.headD .non) a x = false → kd.pw args = pwScan (args.headD .non) ((kd.names.zip args).drop (i + 1)) := fun e => by
        rw [sc, if_neg (by rw [e]; exact Bool.false_ne_true)]
      have row : ∀ {H' : Hp}, Same H H' → SqT K H' r (.str kd.word :: args) := fun s' => SqT.of (s' _ _ hrow)
      refine ⟨t, _, rfl, SqT.of upd_same, rfl, _, _, rfl, _, _, rfl, rfl, ?_⟩
      refine ⟨_, rfl, _, rfl, _, _, rfl, rfl, r, _, _, x, rfl, rfl, row s3, ?_, ?_⟩
      · rw [show (1 : Int) + (i : Nat) = ((i + 1 : Nat) : Int) by omega]
        exact atI_nat ex
      have sd : ∀ (u v : Str), decide (V.str u = V.str v) = decide (u = v) := fun u v => decide_eq_decide.mpr ⟨fun e => V.str.inj e, fun e => by rw [e]⟩
      refine ⟨_, rfl, rfl, _, rfl, ?_⟩
      rw [sd]
      by_cases en : a = Str.ofString "number"
      · rw [decide_eq_true en]
        have eb : badA (args.headD .non) a x = !wholeV x 1 40 := by rw [en]; exact badA_num _ _
        have a1 : 0 < i := by
          rcases Nat.eq_zero_or_pos i with z | z
          · subst z; exact absurd en (name0 _ ea).1
          · exact z
        refine iteT ⟨_, rfl, x, nx, rfl, (tx.keep s3).kd, _, rfl, ?_⟩
        cases x with
        | int j =>
          refine iteF ⟨_, rfl, _, _, rfl, rfl, _, rfl, ?_⟩
          have ew : wholeV (.int j) 1 40 = (decide (1 ≤ j) && decide (j ≤ 40)) := rfl
          refine ite2 (fun h1 => ?_) (fun h1 => ?_)
          · have h1 : (1 : Int) ≤ j := of_decide_eq_true h1
            refine ⟨_, _, rfl, rfl, _, rfl, ?_⟩
            refine ite2 (fun h2 => ?_) (fun h2 => ?_)
            · have h2 : ¬ j ≤ 40 := fun e => by rw [decide_eq_true e] at h2; cases h2
              exact ⟨_, rfl, bad _ s3 (by rw [eb, ew, decide_eq_true h1, decide_eq_false h2]; rfl)⟩
            · have h2 : j ≤ 40 := by
                by_cases q : j ≤ 40
                · exact q
                · rw [decide_eq_false q] at h2
                  exact absurd rfl h2
              exact ⟨_, _, _, rfl, s3, good (by rw [eb, ew, decide_eq_true h1, decide_eq_true h2]; rfl), fun _ => a0 a1⟩
          · have h1 : ¬ (1 : Int) ≤ j := fun e => h1 (decide_eq_true e)
            exact ⟨_, rfl, iteT ⟨_, rfl, bad _ s3 (by rw [eb, ew, decide_eq_false h1]; rfl)⟩⟩
        | _ => exact iteT ⟨_, rfl, bad _ s3 (by rw [eb]; rfl)⟩
      · rw [decide_eq_false en]
        have eb : badA (args.headD .non) a x = (!labV x || ((decide (a = Str.ofString "seat") && inV x (noSeats.map V.str)) || (decide (a = Str.ofString "what") && decide (x = args.headD .non)))) := if_neg en
        refine iteF ⟨_, rfl, x, nx, rfl, (tx.keep s3).kd, tx.fine, fun H3 s4 => ⟨_, rfl, ?_⟩⟩
        have s04 := s3.trans s4
        cases el : labV x with
        | false => exact iteT ⟨_, rfl, bad _ s04 (by rw [eb, el]; rfl)⟩
        | true =>
          obtain ⟨z, rfl, hz⟩ := lab_str el
          have nxt : 0 < i + 1 → ∃ z xs, args = .str z :: xs := fun _ => by
            rcases Nat.eq_zero_or_pos i with e0 | e0
            · subst e0
              cases args with
              | nil => cases ex
              | cons u xs => cases ex; exact ⟨z, xs, rfl⟩
            · exact a0 e0
          refine iteF ⟨_, rfl, rfl, _, rfl, ?_⟩
          rw [sd]
          by_cases es : a = Str.ofString "seat"
          · rw [decide_eq_true es]
            have nw' : ¬ a = Str.ofString "what" := fun e => e_ws (e.symm.trans es)
            refine iteT ⟨_, rfl, (by show 3 ≤ sizeLine; decide), fun t2 ht2 => ?_⟩
            have s5 := sameUpd (o := .tup [V.str "first", V.str "second", V.str "nobody"]) (Same.refl H3) ht2
            refine ⟨t2, noSeats.map V.str, rfl, .inr (SqT.of upd_same), rfl, by decide, _, rfl, ?_⟩
            rw [decide_eq_true es, decide_eq_false nw', el] at eb
            have eb : badA (args.headD .non) a (.str z) = inV (.str z) (noSeats.map V.str) := by rw [eb]; simp
            cases ei : inV (.str z) (noSeats.map V.str) with
            | true => exact iteT ⟨_, rfl, bad _ (s04.trans s5) (by rw [eb, ei])⟩
            | false =>
              refine iteF ⟨_, rfl, rfl, _, rfl, ?_⟩
              rw [sd, decide_eq_false nw']
              exact iteF ⟨_, _, _, rfl, s04.trans s5, good (by rw [eb, ei]), nxt⟩
          · rw [decide_eq_false es]
            refine iteF ⟨_, rfl, rfl, _, rfl, ?_⟩
            rw [sd]
            rw [decide_eq_false es, el] at eb
            by_cases ew : a = Str.ofString "what"
            · rw [decide_eq_true ew]
              have a1 : 0 < i := by
                rcases Nat.eq_zero_or_pos i with z | z
                · subst z; exact absurd ew (name0 _ ea).2
                · exact z
              obtain ⟨u, xs, rfl⟩ := a0 a1
              rw [decide_eq_true ew] at eb
              have eb : badA (.str u) a (.str z) = decide (V.str z = V.str u) := by
                have q : badA (.str u) a (.str z) = _ := eb
                rw [q]
                simp
              refine iteT ⟨_, rfl, _, rfl, r, _, _, _, rfl, rfl, row s04, atI1 _ _ _, rfl, _, rfl, ?_⟩
              refine ite2 (fun h1 => ?_) (fun h1 => ?_)
              · exact ⟨_, rfl, bad _ s04 (eb.trans h1)⟩
              · exact ⟨_, _, _, rfl, s04, good (eb.trans (Bool.eq_false_iff.mpr h1)), nxt⟩
            · rw [decide_eq_false ew]
              rw [decide_eq_false ew] at eb
              exact iteF ⟨_, _, _, rfl, s04, good (by rw [eb]; rfl), nxt⟩
    · rintro σ H2 ⟨v2, v3, v4, rfl, s2, sc, _⟩
      rw [show pwScan (args.headD .non) ((kd.names.zip args).drop (kd.names.map V.str).length) = none by rw [List.drop_of_length_le (by rw [List.length_zip, List.length_map]; omega)]; rfl] at sc
      have q := k H2 s2
      rw [sc] at q
      exact q
end
end Kx

set_option maxHeartbeats 8000000
namespace Kx
open PySem L2
def Pk.cls : Pk → Str
  | .room => "InRoom"
  | .notroom => "NotInRoom"
  | .is_ => "Is"
  | .isnot => "IsNot"
  | .same => "SamePerson"
  | .apart => "Apart"
  | .least => "AtLeast"
  | .below => "Below"
  | .to => "ToRoom"
  | .put => "Put"
  | .zero => "Zero"
  | .run => "Run"
  | .halt => "Halt"
/-- how the thirteen are made -/
structure PkM (P : Program) (w : World) (K : PySem.W.Frag) (mg : Str → Option Value) (base : Heap) (Cs : Pk → Addr) (Bc Bh : Addr) : Prop where
  mki : ∀ k : Pk, k.sh ≠ .n → ∃ fI fdI, MkP P w K mg base k.cls k.sh (Cs k) (if k.cond then Bc else Bh) fI fdI ("self" :: k.names)
  mk0 : ∀ k : Pk, k.sh = .n → Mk0 K (Cs k)
  m : ∀ k : Pk, mg k.cls = some (.ref (Cs k))
theorem tst {k j : Pk} : decide (V.str k.word = V.str j.word) = decide (k = j) := decide_eq_decide.mpr ⟨fun e => word_inj (V.str.inj e), fun e => by rw [e]⟩
theorem ifW {k : Pk} {A B : Prop} (j : Pk) (h1 : k = j → A) (h2 : ¬ k = j → B) : if decide (V.str k.word = V.str j.word) = true then A else B := by
  rw [tst]
  exact ite2 (fun h => h1 (of_decide_eq_true h)) fun h => h2 fun e => h (decide_eq_true e)
/-- what comes of a row -/
def PieceOut (Cs : Pk → Addr) (Bc Bh : Addr) (H : Hp) (k : Pk) (args : List V) (Q : VK) (E : XK) : Prop := match k.pw args with
  | none => ∀ a H', H a = none → Same H H' → PcA Cs H' a k args → Q (.ref a) H'
  | some w => ∀ d H', H d = none → Same H H' → H' d = some (.xd (whatF w)) → E (.ref (if k.cond then Bc else Bh)) (some d) H'
def spPiece (Cs : Pk → Addr) (Bc Bh : Addr) : Sp := fun vs H Q E => ∃ (r : Addr) (k : Pk) (args : List V), vs = [.ref r] ∧ H r = some (.tup (.str k.word :: args)) ∧ args.length = k.names.length ∧ Things H args ∧ PieceOut Cs Bc Bh H k args Q E
theorem spI_of {Cs : Pk → Addr} {Bc Bh : Addr} {k : Pk} {H : Hp} {args : List V} {x dx : Addr} (hx : H x = none) (hdx : H dx = none) (ne : dx ≠ x) (hl : args.length = k.names.length) (ta : Things H args) {Q : VK} {E : XK} (out : PieceOut Cs Bc Bh H k args Q E) :
    spI k.sh (Cs k) (if k.cond then Bc else Bh) (.ref x :: args) (upd (upd H dx (.own x)) x (.ins (Cs k) dx [])) (fun v H2 => v = .non ∧ Q (.ref x) H2) E := by
  have s0 : Same H (upd (upd H dx (.own x)) x (.ins (Cs k) dx [])) := (sameUpd (Same.refl _) hdx).trans (sameUpd (Same.refl _) (by rw [upd_ne ne.symm]; exact hx))
  refine ⟨x, dx, args, rfl, hl, upd_same, ta.keep s0, ?_⟩
  unfold PieceOut Pk.pw at out
  have so : ∀ H', Keep (upd (upd H dx (.own x)) x (.ins (Cs k) dx [])) H' x → Same H H' := fun H' kp b o e => kp b o (s0 b o e) (ne_of_none e hx)
  cases e : k.sh.pw args with
  | none =>
    rw [e] at out
    exact fun H' kp e2 => ⟨rfl, out x H' hx (so H' kp) ⟨⟨dx, e2⟩, e⟩⟩
  | some w =>
    rw [e] at out
    exact fun d H' hd kp e2 => out d H' (none2 (none2 hd).1).1 (so H' kp) e2
section
variable {P : Program} {w : World} {K : PySem.W.Frag} {mg : Str → Option Value} {base : Heap}
theorem scPieceL : FnScope ["_law_row_here", "_law_word"] ["_law_row_here"] (defScope sLPiece) := ⟨rfl, rfl, rfl, by decide +kernel, rfl, by decide +kernel, by decide +kernel⟩
theorem ok_lpiece {f Bc Bh : Addr} {fd : FuncData} {Cs : Pk → Addr} (F : Fun K "_law_piece" "_law_piece" sLPiece f fd) (m : mg "_law_piece" = some (.ref f)) (M : PkM P w K mg base Cs Bc Bh) : ∃ f fd, mg "_law_piece" = some (.ref f) ∧ PySem.W.keepIn K (.ref f) = true ∧ Binds K fd ["_law_row_here"] [] ∧ FnOk P w K mg base (L2.CX P w) 6 f fd ["_law_row_here"] (spPiece Cs Bc Bh) := by
  refine ⟨f, fd, m, F.kp, F.binds fun _ _ _ _ _ _ us hl => by obtain ⟨_, rfl⟩ := us1 hl; exact rfl, ?_⟩
  obtain ⟨g0, d0, M0⟩ := M.mki .room (by decide)
  obtain ⟨g1, d1, M1⟩ := M.mki .notroom (by decide)
  obtain ⟨g2, d2, M2⟩ := M.mki .is_ (by decide)
  obtain ⟨g3, d3, M3⟩ := M.mki .isnot (by decide)
  have M4 := M.mk0 .same rfl; have m4 := M.m .same
  have M5 := M.mk0 .apart rfl; have m5 := M.m .apart
  obtain ⟨g6, d6, M6⟩ := M.mki .least (by decide)
  obtain ⟨g7, d7, M7⟩ := M.mki .below (by decide)
  obtain ⟨g8, d8, M8⟩ := M.mki .to (by decide)
  obtain ⟨g9, d9, M9⟩ := M.mki .put (by decide)
  obtain ⟨g10, d10, M10⟩ := M.mki .zero (by decide)
  obtain ⟨g11, d11, M11⟩ := M.mki .run (by decide)
  obtain ⟨g12, d12, M12⟩ := M.mki .halt (by decide)
  refine F.okX scPieceL (fun vs H Q E h => ?_) (fun cdv A outer s H vs Q E hr h => ?_)
  · obtain ⟨a, b, c, rfl, _⟩ := h
    rfl
  · obtain ⟨r, k, args, rfl, hrow, hl, ta, out⟩ := h
    refine ⟨_, (pss_cons (ps_set (i := 1) scPieceL.nd rfl (Or.inl rfl) (pe_ix ix_tup (pv 0) pe_int (fun _ _ => rfl)))
    (pss_cons (ps_if (pt_cmpR op_eq (pv 1) pe_str (nomark _)) (pss_one (ps_ret (pe_makeS M0.MK M0.G hr (by rfl) M0.m M0.b (passAt (takes_of rfl rfl rfl rfl)) (pa_cons (pe_ix ix_tup (pv 0) pe_int (fun _ _ => rfl)) pa_nil)))) pss_nil)
    (pss_cons (ps_if (pt_cmpR op_eq (pv 1) pe_str (nomark _)) (pss_one (ps_ret (pe_makeS M1.MK M1.G hr (by rfl) M1.m M1.b (passAt (takes_of rfl rfl rfl rfl)) (pa_cons (pe_ix ix_tup (pv 0) pe_int (fun _ _ => rfl)) pa_nil)))) pss_nil)
    (pss_cons (ps_if (pt_cmpR op_eq (pv 1) pe_str (nomark _)) (pss_one (ps_ret (pe_makeS M2.MK M2.G hr (by rfl) M2.m M2.b (passAt (takes_of rfl rfl rfl rfl)) (pa_cons (pe_ix ix_tup (pv 0) pe_int (fun _ _ => rfl)) (pa_cons (pe_ix ix_tup (pv 0) pe_int (fun _ _ => rfl)) pa_nil))))) pss_nil)
    (pss_cons (ps_if (pt_cmpR op_eq (pv 1) pe_str (nomark _)) (pss_one (ps_ret (pe_makeS M3.MK M3.G hr (by rfl) M3.m M3.b (passAt (takes_of rfl rfl rfl rfl)) (pa_cons (pe_ix ix_tup (pv 0) pe_int (fun _ _ => rfl)) (pa_cons (pe_ix ix_tup (pv 0) pe_int (fun _ _ => rfl)) pa_nil))))) pss_nil)
    (pss_cons (ps_if (pt_cmpR op_eq (pv 1) pe_str (nomark _)) (pss_one (ps_ret (pe_make00 M4 (by rfl) m4))) pss_nil)
    (pss_cons (ps_if (pt_cmpR op_eq (pv 1) pe_str (nomark _)) (pss_one (ps_ret (pe_make00 M5 (by rfl) m5))) pss_nil)
    (pss_cons (ps_if (pt_cmpR op_eq (pv 1) pe_str (nomark _)) (pss_one (ps_ret (pe_makeS M6.MK M6.G hr (by rfl) M6.m M6.b (passAt (takes_of rfl rfl rfl rfl)) (pa_cons (pe_ix ix_tup (pv 0) pe_int (fun _ _ => rfl)) (pa_cons (pe_ix ix_tup (pv 0) pe_int (fun _ _ => rfl)) pa_nil))))) pss_nil)
    (pss_cons (ps_if (pt_cmpR op_eq (pv 1) pe_str (nomark _)) (pss_one (ps_ret (pe_makeS M7.MK M7.G hr (by rfl) M7.m M7.b (passAt (takes_of rfl rfl rfl rfl)) (pa_cons (pe_ix ix_tup (pv 0) pe_int (fun _ _ => rfl)) (pa_cons (pe_ix ix_tup (pv 0) pe_int (fun _ _ => rfl)) pa_nil))))) pss_nil)
    (pss_cons (ps_if (pt_cmpR op_eq (pv 1) pe_str (nomark _)) (pss_one (ps_ret (pe_makeS M8.MK M8.G hr (by rfl) M8.m M8.b (passAt (takes_of rfl rfl rfl rfl)) (pa_cons (pe_ix ix_tup (pv 0) pe_int (fun _ _ => rfl)) pa_nil)))) pss_nil)
    (pss_cons (ps_if (pt_cmpR op_eq (pv 1) pe_str (nomark _)) (pss_one (ps_ret (pe_makeS M9.MK M9.G hr (by rfl) M9.m M9.b (passAt (takes_of rfl rfl rfl rfl)) (pa_cons (pe_ix ix_tup (pv 0) pe_int (fun _ _ => rfl)) (pa_cons (pe_ix ix_tup (pv 0) pe_int (fun _ _ => rfl)) pa_nil))))) pss_nil)
    (pss_cons (ps_if (pt_cmpR op_eq (pv 1) pe_str (nomark _)) (pss_one (ps_ret (pe_makeS M10.MK M10.G hr (by rfl) M10.m M10.b (passAt (takes_of rfl rfl rfl rfl)) (pa_cons (pe_ix ix_tup (pv 0) pe_int (fun _ _ => rfl)) pa_nil)))) pss_nil)
    (pss_cons (ps_if (pt_cmpR op_eq (pv 1) pe_str (nomark _)) (pss_one (ps_ret (pe_makeS M11.MK M11.G hr (by rfl) M11.m M11.b (passAt (takes_of rfl rfl rfl rfl)) (pa_cons (pe_ix ix_tup (pv 0) pe_int (fun _ _ => rfl)) pa_nil)))) pss_nil)
    (pss_one (ps_ret (pe_makeS M12.MK M12.G hr (by rfl) M12.m M12.b (passAt (takes_of rfl rfl rfl rfl)) (pa_cons (pe_ix ix_tup (pv 0) pe_int (fun _ _ => rfl)) pa_nil))))))))))))))))), ?_⟩
    have row := SqT.of (K := K) hrow
    refine ⟨_, rfl, r, _, _, _, rfl, rfl, row, atI0 _ _, ?_⟩
    refine ⟨_, rfl, rfl, _, rfl, ifW .room (fun e => ?_) fun n0 => ?_⟩
    · subst e
      obtain ⟨x, rfl⟩ := whole_of (s := .r) hl
      exact ⟨_, rfl, r, _, _, _, rfl, rfl, row, atI1 _ _ _, fun x' dx hx hdx ne => spI_of (k := .room) hx hdx ne rfl ta out⟩
    refine ⟨_, rfl, rfl, _, rfl, ifW .notroom (fun e => ?_) fun n1 => ?_⟩
    · subst e
      obtain ⟨x, rfl⟩ := whole_of (s := .r) hl
      exact ⟨_, rfl, r, _, _, _, rfl, rfl, row, atI1 _ _ _, fun x' dx hx hdx ne => spI_of (k := .notroom) hx hdx ne rfl ta out⟩
    refine ⟨_, rfl, rfl, _, rfl, ifW .is_ (fun e => ?_) fun n2 => ?_⟩
    · subst e
      obtain ⟨x, y, rfl⟩ := whole_of (s := .s) hl
      exact ⟨_, rfl, r, _, _, _, rfl, rfl, row, atI1 _ _ _, _, rfl, r, _, _, _, rfl, rfl, row, atI2 _ _ _ _, fun x' dx hx hdx ne => spI_of (k := .is_) hx hdx ne rfl ta out⟩
    refine ⟨_, rfl, rfl, _, rfl, ifW .isnot (fun e => ?_) fun n3 => ?_⟩
    · subst e
      obtain ⟨x, y, rfl⟩ := whole_of (s := .s) hl
      exact ⟨_, rfl, r, _, _, _, rfl, rfl, row, atI1 _ _ _, _, rfl, r, _, _, _, rfl, rfl, row, atI2 _ _ _ _, fun x' dx hx hdx ne => spI_of (k := .isnot) hx hdx ne rfl ta out⟩
    refine ⟨_, rfl, rfl, _, rfl, ifW .same (fun e => ?_) fun n4 => ?_⟩
    · subst e
      have z1 : args = [] := whole_of (s := .n) hl
      subst z1
      refine fun x dx hx hdx ne => (show PieceOut Cs Bc Bh H .same [] Q E from out) x _ hx ((sameUpd (Same.refl _) hdx).trans (sameUpd (Same.refl _) (by rw [upd_ne ne.symm]; exact hx))) ⟨⟨dx, upd_same⟩, rfl⟩
    refine ⟨_, rfl, rfl, _, rfl, ifW .apart (fun e => ?_) fun n5 => ?_⟩
    · subst e
      have z1 : args = [] := whole_of (s := .n) hl
      subst z1
      refine fun x dx hx hdx ne => (show PieceOut Cs Bc Bh H .apart [] Q E from out) x _ hx ((sameUpd (Same.refl _) hdx).trans (sameUpd (Same.refl _) (by rw [upd_ne ne.symm]; exact hx))) ⟨⟨dx, upd_same⟩, rfl⟩
    refine ⟨_, rfl, rfl, _, rfl, ifW .least (fun e => ?_) fun n6 => ?_⟩
    · subst e
      obtain ⟨x, y, rfl⟩ := whole_of (s := .c) hl
      exact ⟨_, rfl, r, _, _, _, rfl, rfl, row, atI1 _ _ _, _, rfl, r, _, _, _, rfl, rfl, row, atI2 _ _ _ _, fun x' dx hx hdx ne => spI_of (k := .least) hx hdx ne rfl ta out⟩
    refine ⟨_, rfl, rfl, _, rfl, ifW .below (fun e => ?_) fun n7 => ?_⟩
    · subst e
      obtain ⟨x, y, rfl⟩ := whole_of (s := .c) hl
      exact ⟨_, rfl, r, _, _, _, rfl, rfl, row, atI1 _ _ _, _, rfl, r, _, _, _, rfl, rfl, row, atI2 _ _ _ _, fun x' dx hx hdx ne => spI_of (k := .below) hx hdx ne rfl ta out⟩
    refine ⟨_, rfl, rfl, _, rfl, ifW .to (fun e => ?_) fun n8 => ?_⟩
    · subst e
      obtain ⟨x, rfl⟩ := whole_of (s := .r) hl
      exact ⟨_, rfl, r, _, _, _, rfl, rfl, row, atI1 _ _ _, fun x' dx hx hdx ne => spI_of (k := .to) hx hdx ne rfl ta out⟩
    refine ⟨_, rfl, rfl, _, rfl, ifW .put (fun e => ?_) fun n9 => ?_⟩
    · subst e
      obtain ⟨x, y, rfl⟩ := whole_of (s := .s) hl
      exact ⟨_, rfl, r, _, _, _, rfl, rfl, row, atI1 _ _ _, _, rfl, r, _, _, _, rfl, rfl, row, atI2 _ _ _ _, fun x' dx hx hdx ne => spI_of (k := .put) hx hdx ne rfl ta out⟩
    refine ⟨_, rfl, rfl, _, rfl, ifW .zero (fun e => ?_) fun n10 => ?_⟩
    · subst e
      obtain ⟨x, rfl⟩ := whole_of (s := .k) hl
      exact ⟨_, rfl, r, _, _, _, rfl, rfl, row, atI1 _ _ _, fun x' dx hx hdx ne => spI_of (k := .zero) hx hdx ne rfl ta out⟩
    refine ⟨_, rfl, rfl, _, rfl, ifW .run (fun e => ?_) fun n11 => ?_⟩
    · subst e
      obtain ⟨x, rfl⟩ := whole_of (s := .k) hl
      exact ⟨_, rfl, r, _, _, _, rfl, rfl, row, atI1 _ _ _, fun x' dx hx hdx ne => spI_of (k := .run) hx hdx ne rfl ta out⟩
    have e : k = .halt := by cases k <;> first | rfl | (exact absurd rfl (by assumption))
    subst e
    obtain ⟨x, rfl⟩ := whole_of (s := .k) hl
    exact ⟨_, rfl, r, _, _, _, rfl, rfl, row, atI1 _ _ _, fun x' dx hx hdx ne => spI_of (k := .halt) hx hdx ne rfl ta out⟩
end
end Kx

set_option maxHeartbeats 8000000
namespace Kx
open PySem L2
/-- what is known of an own error that is caught: of its kind, of SearchError, not of another -/
structure ErX (K : PySem.W.Frag) (mg : Str → Option Value) (x : Str) (CB CS CO : Addr) (y : Str) (f1 : Str) : Prop where
  m : mg x = some (.ref CB)
  mS : mg "SearchError" = some (.ref CS)
  mO : mg y = some (.ref CO)
  XB : XfC K CB
  EB : ExcC K CB
  n1 : PySem.W.findIn K (.ref CB) f1 = some none
  tB : PySem.W.exmOne K (.ref CB) (.ref CB) = some true
  tO : PySem.W.exmOne K (.ref CB) (.ref CO) = some false
  kS : PySem.W.kitOne K (.ref CB) (.ref CS) = some true
  kO : PySem.W.kitOne K (.ref CB) (.ref CO) = some false
theorem in_words (k : Pk) : inV (.str k.word) [V.str "room", V.str "notroom", V.str "is", V.str "isnot", V.str "same", V.str "apart", V.str "least", V.str "below"] = k.cond := by
  cases k <;> decide +kernel
def spTryP (Cs : Pk → Addr) : Sp := fun vs H Q _ => ∃ (r : Addr) (k : Pk) (args : List V), vs = [.ref r] ∧ H r = some (.tup (.str k.word :: args)) ∧ args.length = k.names.length ∧ Things H args ∧ match k.pw args with
  | none => ∀ a H', H a = none → Same H H' → PcA Cs H' a k args → Q (.ref a) H'
  | some w => ∀ H', Same H H' → Q (.str w) H'
/-- _law_piece as it is called -/
def PieceF (P : Program) (w : World) (K : PySem.W.Frag) (mg : Str → Option Value) (base : Heap) (Cs : Pk → Addr) (Bc Bh : Addr) : Prop := ∃ f fd, mg "_law_piece" = some (.ref f) ∧ PySem.W.keepIn K (.ref f) = true ∧ Binds K fd ["_law_row_here"] [] ∧ FnOk P w K mg base (L2.CX P w) 6 f fd ["_law_row_here"] (spPiece Cs Bc Bh)
section
variable {P : Program} {w : World} {K : PySem.W.Frag} {mg : Str → Option Value} {base : Heap}
theorem scTryP : FnScope ["_law_row_here", "_law_condition", "e"] ["_law_row_here"] (defScope sLTryPiece) := ⟨rfl, rfl, rfl, by decide +kernel, rfl, by decide +kernel, by decide +kernel⟩
theorem ok_tryp {f Bc Bh CS : Addr} {fd : FuncData} {Cs : Pk → Addr} (F : Fun K "_law_try_piece" "_law_try_piece" sLTryPiece f fd) (m : mg "_law_try_piece" = some (.ref f)) (B : Bm mg) (PF : PieceF P w K mg base Cs Bc Bh) (X : ErX K mg "BadCondition" Bc CS Bh "BadChange" "what") (Y : ErX K mg "BadChange" Bh CS Bc "BadCondition" "what") : HasF P w K mg base "_law_try_piece" 7 ["_law_row_here"] (spTryP Cs) := by
  refine ⟨f, fd, ?_, m, F.kp, F.binds fun _ _ _ _ _ _ us hl => by obtain ⟨_, rfl⟩ := us1 hl; exact rfl⟩
  obtain ⟨f1, fd1, m1, k1, b1, G1⟩ := PF
  refine F.ok scTryP (fun vs H Q E h => ?_) (fun cdv A outer s H vs Q E hr h => ?_)
  · obtain ⟨a, b, c, rfl, _⟩ := h
    rfl
  · obtain ⟨r, k, args, rfl, hrow, hl, ta, out⟩ := h
    refine ⟨_, (C8.pss_cut (ps_set (i := 1) scTryP.nd rfl (Or.inl rfl) (pe_cmpR op_in_seq (pe_ix ix_tup (pv 0) pe_int (fun _ _ => rfl)) (pe_tup (pa_cons pe_str (pa_cons pe_str (pa_cons pe_str (pa_cons pe_str (pa_cons pe_str (pa_cons pe_str (pa_cons pe_str (pa_cons pe_str pa_nil))))))))) (by rfl)))
    (pss_one (ps_try_each (i := 2) (Wo := fun _ _ _ _ => False) rfl rfl scTryP.nd rfl rfl takes0
        (fun W pn xe tk _ => pss_one (ps_ret (pe_callS G1 hr (by rfl) m1 k1 b1 (fun σ => passAt tk σ) (pa_cons (pv 0) pa_nil))))
        (Clauses.cons ⟨rfl, by decide, .inl X.m⟩ (fun a oe cls d pn hz hf => pss_one (ps_ret (pe_ifExp (PW.pt (pw_and (pt_val (pv 1)) (pw_and (pt_val (pe_callB (call_isEd (K := K) (D := Bc) rfl X.EB hz hf) (by rfl) B.isinstance (by decide +kernel) (pa_cons (pv 2) (pa_cons (pe_glob (v := .ref CS) rfl X.mS rfl) pa_nil)))) (pw_and1 (pt_not (pt_val (pe_callB (call_isEd (K := K) (D := Bc) rfl X.EB hz hf) (by rfl) B.isinstance (by decide +kernel) (pa_cons (pv 2) (pa_cons (pe_glob (v := .ref Bh) rfl X.mO rfl) pa_nil))))))))) (pe_xf X.XB X.n1 hz hf (pv 2)) pe_int)))
          (Clauses.cons ⟨rfl, by decide, .inl Y.m⟩ (fun a oe cls d pn hz hf => pss_one (ps_ret (pe_ifExp (PW.pt (pw_and (pt_not (pt_val (pv 1))) (pw_and (pt_val (pe_callB (call_isEd (K := K) (D := Bh) rfl Y.EB hz hf) (by rfl) B.isinstance (by decide +kernel) (pa_cons (pv 2) (pa_cons (pe_glob (v := .ref CS) rfl Y.mS rfl) pa_nil)))) (pw_and1 (pt_not (pt_val (pe_callB (call_isEd (K := K) (D := Bh) rfl Y.EB hz hf) (by rfl) B.isinstance (by decide +kernel) (pa_cons (pv 2) (pa_cons (pe_glob (v := .ref Bc) rfl Y.mO rfl) pa_nil))))))))) (pe_xf Y.XB Y.n1 hz hf (pv 2)) pe_int)))
            Clauses.nil))))), ?_⟩
    refine ⟨fun σ H1 => σ = [some (.ref r), some (.bl k.cond), none] ∧ Same H H1, ?_, ?_⟩
    · refine ⟨_, rfl, r, _, _, _, rfl, rfl, SqT.of hrow, atI0 _ _, (by show 8 ≤ sizeLine; decide), fun t ht => ?_⟩
      refine ⟨t, _, rfl, .inr (SqT.of upd_same), rfl, by decide, ?_⟩
      rw [if_neg Bool.false_ne_true, in_words]
      exact ⟨rfl, sameUpd (Same.refl _) ht⟩
    rintro σ H1 ⟨rfl, s1⟩
    refine ⟨_, rfl, r, k, args, rfl, s1 _ _ hrow, hl, ta.keep s1, ?_⟩
    unfold PieceOut Pk.pw
    unfold Pk.pw at out
    cases e : k.sh.pw args with
    | none =>
      rw [e] at out
      exact fun a H' ha s2 hp => out a H' (s1.free ha) (s1.trans s2) hp
    | some w' =>
      rw [e] at out
      intro d H' hd s2 ed
      have s12 := s1.trans s2
      cases hc : k.cond with
      | true =>
        rw [if_pos rfl]
        refine ⟨true, X.tB, fun _ a' ha' => ?_, fun q => nomatch q⟩
        refine ⟨_, rfl, _, rfl, iteT ?_⟩
        refine ⟨_, rfl, rfl, .inr ⟨d, _, rfl, ed⟩, .ref CS, .ref CS, true, rfl, fun u e => e, X.kS, _, rfl, iteT ?_⟩
        refine ⟨_, rfl, rfl, .inr ⟨d, _, rfl, ed⟩, .ref Bh, .ref Bh, false, rfl, fun u e => e, X.kO, _, rfl, iteT ?_⟩
        exact ⟨_, rfl, rfl, rfl, d, _, .str w', rfl, ed, rfl, out H' s12⟩
      | false =>
        rw [if_neg Bool.false_ne_true]
        refine ⟨false, Y.tO, fun q => absurd q Bool.false_ne_true, fun _ => ?_⟩
        refine ⟨true, Y.tB, fun _ a' ha' => ?_, fun q => nomatch q⟩
        refine ⟨_, rfl, _, rfl, iteT ?_⟩
        refine ⟨_, rfl, rfl, .inr ⟨d, _, rfl, ed⟩, .ref CS, .ref CS, true, rfl, fun u e => e, Y.kS, _, rfl, iteT ?_⟩
        refine ⟨_, rfl, rfl, .inr ⟨d, _, rfl, ed⟩, .ref Bc, .ref Bc, false, rfl, fun u e => e, Y.kO, _, rfl, iteT ?_⟩
        exact ⟨_, rfl, rfl, rfl, d, _, .str w', rfl, ed, rfl, out H' s12⟩
end
end Kx

set_option maxHeartbeats 8000000
namespace Kx
open PySem L2
/-! rows as data -/
def dV : V → PyData
  | .str z => .str z
  | .int i => .int i
  | _ => .none
def dRow (p : Pc) : PyData := .tuple (.str p.1.word :: p.2.map dV)
abbrev Pc.ok (p : Pc) : Prop := p.1.pw p.2 = none
theorem eqv_dV {x y : V} (h : GoodA x) (h' : GoodA y) : PyData.eqv (dV x) (dV y) = decide (x = y) := by
  rcases h with ⟨z, rfl, _⟩ | ⟨i, rfl, _⟩ <;> rcases h' with ⟨u, rfl, _⟩ | ⟨j, rfl, _⟩
  · show PyData.eqv (.str z) (.str u) = _
    rw [eqv_str]
    exact decide_eq_decide.mpr ⟨fun e => by rw [e], fun e => V.str.inj e⟩
  · show PyData.eqv (.str z) (.int j) = _
    simp [PyData.eqv]
  · show PyData.eqv (.int i) (.str u) = _
    simp [PyData.eqv]
  · show PyData.eqv (.int i) (.int j) = _
    by_cases e : i = j
    · subst e; simp [PyData.eqv]
    · simp [PyData.eqv, e]
theorem eqv_args : ∀ {xs ys : List V}, (∀ x ∈ xs, GoodA x) → (∀ y ∈ ys, GoodA y) → PyData.eqvAll (xs.map dV) (ys.map dV) = decide (xs = ys)
  | [], [], _, _ => rfl
  | [], _ :: _, _, _ => rfl
  | _ :: _, [], _, _ => rfl
  | x :: xs, y :: ys, h, h' => by
    show (PyData.eqv (dV x) (dV y) && PyData.eqvAll (xs.map dV) (ys.map dV)) = _
    rw [eqv_dV (h x (.head _)) (h' y (.head _)), eqv_args (fun z m => h z (.tail _ m)) fun z m => h' z (.tail _ m)]
    by_cases h1 : x = y <;> by_cases h2 : xs = ys <;> simp [h1, h2]
theorem eqv_row {p q : Pc} (hp : p.ok) (hq : q.ok) : PyData.eqv (dRow p) (dRow q) = decide (p = q) := by
  show (PyData.eqv (.str p.1.word) (.str q.1.word) && PyData.eqvAll (p.2.map dV) (q.2.map dV)) = _
  rw [eqv_str, eqv_args (good_args hp).2 (good_args hq).2]
  obtain ⟨k, xs⟩ := p
  obtain ⟨j, ys⟩ := q
  by_cases h1 : k = j
  · subst h1
    by_cases h2 : xs = ys <;> simp [h2]
  · rw [decide_eq_false (fun e => h1 (word_inj e))]
    simp [h1]
theorem lay_dV {x : V} (h : GoodA x) : PyData.canLay0 (dV x) = true ∧ PyData.depth (dV x) ≤ 0 := by
  rcases h with ⟨z, rfl, hz⟩ | ⟨i, rfl, _⟩
  · exact ⟨lab_fine hz, Nat.le_refl _⟩
  · exact ⟨rfl, Nat.le_refl _⟩
theorem lay_row {p : Pc} (h : p.ok) : PyData.canLay0 (dRow p) = true ∧ PyData.depth (dRow p) ≤ 1 := by
  obtain ⟨a, b⟩ := lay_map (f := dV) (n := 0) (xs := p.2) fun x m => lay_dV ((good_args h).2 x m)
  refine ⟨?_, ?_⟩
  · show (PyData.canLay0 (.str p.1.word) && PyData.canLayAll0 (p.2.map dV)) = true
    rw [a, show PyData.canLay0 (.str p.1.word) = true by cases p.1 <;> decide +kernel]
    rfl
  · show max 0 (PyData.depthAll (p.2.map dV)) + 1 ≤ 1
    omega
theorem shaped_row {p : Pc} (h : p.ok) : SeqAt.shaped (dRow p) = true := by
  obtain ⟨a, b⟩ := lay_row h
  unfold SeqAt.shaped
  rw [Bool.and_eq_true]
  exact ⟨a, decide_eq_true (by omega)⟩
theorem dp_args {K : PySem.W.Frag} {H : Hp} : ∀ {xs : List V}, (∀ x ∈ xs, GoodA x) → DpAll K H xs (xs.map dV)
  | [], _ => .nil
  | x :: xs, h => by
    refine .cons ?_ (dp_args fun z m => h z (.tail _ m))
    rcases h x (.head _) with ⟨z, rfl, _⟩ | ⟨i, rfl, _⟩
    · exact .str _
    · exact .int _
/-- a row as it stands -/
def RowA (H : Hp) (t : Addr) (p : Pc) : Prop := H t = some (.tup (.str p.1.word :: p.2))
theorem RowA.dp {K : PySem.W.Frag} {H : Hp} {t : Addr} {p : Pc} (h : RowA H t p) (ok : p.ok) : Dp K H (.ref t) (dRow p) := .tup (SqT.of h) (.cons (.str _) (dp_args (good_args ok).2))
theorem in_r (k : Pk) : inV (.str k.word) [V.str "room", V.str "notroom", V.str "to"] = decide (k.sh = .r) := by cases k <;> decide +kernel
theorem in_s (k : Pk) : inV (.str k.word) [V.str "is", V.str "isnot", V.str "put"] = decide (k.sh = .s) := by cases k <;> decide +kernel
theorem in_c (k : Pk) : inV (.str k.word) [V.str "least", V.str "below"] = decide (k.sh = .c) := by cases k <;> decide +kernel
theorem in_k (k : Pk) : inV (.str k.word) [V.str "zero", V.str "run", V.str "halt"] = decide (k.sh = .k) := by cases k <;> decide +kernel
def spClass (Cs : Pk → Addr) : Sp := fun vs H Q _ => ∃ (a : Addr) (k : Pk) (args : List V), vs = [.ref a] ∧ PcA Cs H a k args ∧ ∀ H', Same H H' → Q (.str k.word) H'
def spRow (Cs : Pk → Addr) : Sp := fun vs H Q _ => ∃ (a : Addr) (p : Pc), vs = [.ref a] ∧ PcA Cs H a p.1 p.2 ∧ ∀ t H', H t = none → Same H H' → RowA H' t p → Q (.ref t) H'
section
variable {P : Program} {w : World} {K : PySem.W.Frag} {mg : Str → Option Value} {base : Heap}
theorem scLClass : FnScope ["_law_piece_here"] ["_law_piece_here"] (defScope sLClass) := ⟨rfl, rfl, rfl, by decide +kernel, rfl, by decide +kernel, by decide +kernel⟩
theorem ok_lclass {f : Addr} {fd : FuncData} {Cs : Pk → Addr} (F : Fun K "_law_class" "_law_class" sLClass f fd) (m : mg "_law_class" = some (.ref f)) (B : Bm mg) (PC : PkC K Cs) (mC : ∀ k : Pk, mg k.cls = some (.ref (Cs k))) : HasF P w K mg base "_law_class" 1 ["_law_piece_here"] (spClass Cs) := by
  refine ⟨f, fd, ?_, m, F.kp, F.binds fun _ _ _ _ _ _ us hl => by obtain ⟨_, rfl⟩ := us1 hl; exact rfl⟩
  have m0 := mC .room
  have m1 := mC .notroom
  have m2 := mC .is_
  have m3 := mC .isnot
  have m4 := mC .same
  have m5 := mC .apart
  have m6 := mC .least
  have m7 := mC .below
  have m8 := mC .to
  have m9 := mC .put
  have m10 := mC .zero
  have m11 := mC .run
  have m12 := mC .halt
  refine F.ok scLClass (fun vs H Q E h => ?_) (fun cdv A outer s H vs Q E hr h => ?_)
  · obtain ⟨a, b, c, rfl, _⟩ := h
    rfl
  · obtain ⟨a, k, args, rfl, ha, q⟩ := h
    obtain ⟨dx, ea⟩ := ha.ob
    refine ⟨_, (pss_cons (ps_if (pt_val (pe_callB call_isiT (by rfl) B.isinstance (by decide +kernel) (pa_cons (pv 0) (pa_cons (pe_tup (pa_cons (pe_glob (v := .ref (Cs .room)) rfl m0 rfl) (pa_cons (pe_glob (v := .ref (Cs .notroom)) rfl m1 rfl) pa_nil))) pa_nil)))) (pss_one (ps_ret (pe_ifExp (pt_val (pe_callB call_isi (by rfl) B.isinstance (by decide +kernel) (pa_cons (pv 0) (pa_cons (pe_glob (v := .ref (Cs .room)) rfl m0 rfl) pa_nil)))) pe_str pe_str))) pss_nil)
    (pss_cons (ps_if (pt_val (pe_callB call_isiT (by rfl) B.isinstance (by decide +kernel) (pa_cons (pv 0) (pa_cons (pe_tup (pa_cons (pe_glob (v := .ref (Cs .is_)) rfl m2 rfl) (pa_cons (pe_glob (v := .ref (Cs .isnot)) rfl m3 rfl) pa_nil))) pa_nil)))) (pss_one (ps_ret (pe_ifExp (pt_val (pe_callB call_isi (by rfl) B.isinstance (by decide +kernel) (pa_cons (pv 0) (pa_cons (pe_glob (v := .ref (Cs .is_)) rfl m2 rfl) pa_nil)))) pe_str pe_str))) pss_nil)
    (pss_cons (ps_if (pt_val (pe_callB call_isiT (by rfl) B.isinstance (by decide +kernel) (pa_cons (pv 0) (pa_cons (pe_tup (pa_cons (pe_glob (v := .ref (Cs .same)) rfl m4 rfl) (pa_cons (pe_glob (v := .ref (Cs .apart)) rfl m5 rfl) pa_nil))) pa_nil)))) (pss_one (ps_ret (pe_ifExp (pt_val (pe_callB call_isi (by rfl) B.isinstance (by decide +kernel) (pa_cons (pv 0) (pa_cons (pe_glob (v := .ref (Cs .same)) rfl m4 rfl) pa_nil)))) pe_str pe_str))) pss_nil)
    (pss_cons (ps_if (pt_val (pe_callB call_isiT (by rfl) B.isinstance (by decide +kernel) (pa_cons (pv 0) (pa_cons (pe_tup (pa_cons (pe_glob (v := .ref (Cs .least)) rfl m6 rfl) (pa_cons (pe_glob (v := .ref (Cs .below)) rfl m7 rfl) pa_nil))) pa_nil)))) (pss_one (ps_ret (pe_ifExp (pt_val (pe_callB call_isi (by rfl) B.isinstance (by decide +kernel) (pa_cons (pv 0) (pa_cons (pe_glob (v := .ref (Cs .least)) rfl m6 rfl) pa_nil)))) pe_str pe_str))) pss_nil)
    (pss_cons (ps_if (pt_val (pe_callB call_isiT (by rfl) B.isinstance (by decide +kernel) (pa_cons (pv 0) (pa_cons (pe_tup (pa_cons (pe_glob (v := .ref (Cs .to)) rfl m8 rfl) (pa_cons (pe_glob (v := .ref (Cs .put)) rfl m9 rfl) pa_nil))) pa_nil)))) (pss_one (ps_ret (pe_ifExp (pt_val (pe_callB call_isi (by rfl) B.isinstance (by decide +kernel) (pa_cons (pv 0) (pa_cons (pe_glob (v := .ref (Cs .to)) rfl m8 rfl) pa_nil)))) pe_str pe_str))) pss_nil)
    (pss_cons (ps_if (pt_val (pe_callB call_isiT (by rfl) B.isinstance (by decide +kernel) (pa_cons (pv 0) (pa_cons (pe_tup (pa_cons (pe_glob (v := .ref (Cs .zero)) rfl m10 rfl) (pa_cons (pe_glob (v := .ref (Cs .run)) rfl m11 rfl) pa_nil))) pa_nil)))) (pss_one (ps_ret (pe_ifExp (pt_val (pe_callB call_isi (by rfl) B.isinstance (by decide +kernel) (pa_cons (pv 0) (pa_cons (pe_glob (v := .ref (Cs .zero)) rfl m10 rfl) pa_nil)))) pe_str pe_str))) pss_nil)
    (pss_one (ps_ret (pe_ifExp (pt_val (pe_callB call_isi (by rfl) B.isinstance (by decide +kernel) (pa_cons (pv 0) (pa_cons (pe_glob (v := .ref (Cs .halt)) rfl m12 rfl) pa_nil)))) pe_str pe_str))))))))), ?_⟩
    have s0 := Same.refl H
    refine ⟨_, rfl, (by show 2 ≤ sizeLine; decide), fun t0 h0 => ?_⟩
    have s1 := sameUpd (o := .tup [V.ref (Cs .room), V.ref (Cs .notroom)]) s0 h0
    refine ⟨_, t0, _, _, _, _, rfl, upd_same, .cons (.own _) (.cons (.own _) .nil), (PC.q _).ty (s1 _ _ ea), kitOr (PC.isi k .room) (PC.isi k .notroom), _, rfl, ?_⟩
    refine ite2 (fun e => ?_) (fun n0 => ?_)
    · refine ⟨_, rfl, _, _, _, _, _, rfl, .own _, (PC.q _).ty (s1 _ _ ea), PC.isi k .room, _, rfl, ?_⟩
      refine ite2 (fun e1 => ?_) (fun e1 => ?_)
      · have e1 : k = .room := of_decide_eq_true e1
        subst e1
        exact q _ s1
      · rw [Bool.or_eq_true, decide_eq_true_eq, decide_eq_true_eq] at e
        have e2 : k = .notroom := e.resolve_left fun z => e1 (decide_eq_true z)
        subst e2
        exact q _ s1
    refine ⟨_, rfl, (by show 2 ≤ sizeLine; decide), fun t1 h1 => ?_⟩
    have s2 := sameUpd (o := .tup [V.ref (Cs .is_), V.ref (Cs .isnot)]) s1 h1
    refine ⟨_, t1, _, _, _, _, rfl, upd_same, .cons (.own _) (.cons (.own _) .nil), (PC.q _).ty (s2 _ _ ea), kitOr (PC.isi k .is_) (PC.isi k .isnot), _, rfl, ?_⟩
    refine ite2 (fun e => ?_) (fun n1 => ?_)
    · refine ⟨_, rfl, _, _, _, _, _, rfl, .own _, (PC.q _).ty (s2 _ _ ea), PC.isi k .is_, _, rfl, ?_⟩
      refine ite2 (fun e1 => ?_) (fun e1 => ?_)
      · have e1 : k = .is_ := of_decide_eq_true e1
        subst e1
        exact q _ s2
      · rw [Bool.or_eq_true, decide_eq_true_eq, decide_eq_true_eq] at e
        have e2 : k = .isnot := e.resolve_left fun z => e1 (decide_eq_true z)
        subst e2
        exact q _ s2
    refine ⟨_, rfl, (by show 2 ≤ sizeLine; decide), fun t2 h2 => ?_⟩
    have s3 := sameUpd (o := .tup [V.ref (Cs .same), V.ref (Cs .apart)]) s2 h2
    refine ⟨_, t2, _, _, _, _, rfl, upd_same, .cons (.own _) (.cons (.own _) .nil), (PC.q _).ty (s3 _ _ ea), kitOr (PC.isi k .same) (PC.isi k .apart), _, rfl, ?_⟩
    refine ite2 (fun e => ?_) (fun n2 => ?_)
    · refine ⟨_, rfl, _, _, _, _, _, rfl, .own _, (PC.q _).ty (s3 _ _ ea), PC.isi k .same, _, rfl, ?_⟩
      refine ite2 (fun e1 => ?_) (fun e1 => ?_)
      · have e1 : k = .same := of_decide_eq_true e1
        subst e1
        exact q _ s3
      · rw [Bool.or_eq_true, decide_eq_true_eq, decide_eq_true_eq] at e
        have e2 : k = .apart := e.resolve_left fun z => e1 (decide_eq_true z)
        subst e2
        exact q _ s3
    refine ⟨_, rfl, (by show 2 ≤ sizeLine; decide), fun t3 h3 => ?_⟩
    have s4 := sameUpd (o := .tup [V.ref (Cs .least), V.ref (Cs .below)]) s3 h3
    refine ⟨_, t3, _, _, _, _, rfl, upd_same, .cons (.own _) (.cons (.own _) .nil), (PC.q _).ty (s4 _ _ ea), kitOr (PC.isi k .least) (PC.isi k .below), _, rfl, ?_⟩
    refine ite2 (fun e => ?_) (fun n3 => ?_)
    · refine ⟨_, rfl, _, _, _, _, _, rfl, .own _, (PC.q _).ty (s4 _ _ ea), PC.isi k .least, _, rfl, ?_⟩
      refine ite2 (fun e1 => ?_) (fun e1 => ?_)
      · have e1 : k = .least := of_decide_eq_true e1
        subst e1
        exact q _ s4
      · rw [Bool.or_eq_true, decide_eq_true_eq, decide_eq_true_eq] at e
        have e2 : k = .below := e.resolve_left fun z => e1 (decide_eq_true z)
        subst e2
        exact q _ s4
    refine ⟨_, rfl, (by show 2 ≤ sizeLine; decide), fun t4 h4 => ?_⟩
    have s5 := sameUpd (o := .tup [V.ref (Cs .to), V.ref (Cs .put)]) s4 h4
    refine ⟨_, t4, _, _, _, _, rfl, upd_same, .cons (.own _) (.cons (.own _) .nil), (PC.q _).ty (s5 _ _ ea), kitOr (PC.isi k .to) (PC.isi k .put), _, rfl, ?_⟩
    refine ite2 (fun e => ?_) (fun n4 => ?_)
    · refine ⟨_, rfl, _, _, _, _, _, rfl, .own _, (PC.q _).ty (s5 _ _ ea), PC.isi k .to, _, rfl, ?_⟩
      refine ite2 (fun e1 => ?_) (fun e1 => ?_)
      · have e1 : k = .to := of_decide_eq_true e1
        subst e1
        exact q _ s5
      · rw [Bool.or_eq_true, decide_eq_true_eq, decide_eq_true_eq] at e
        have e2 : k = .put := e.resolve_left fun z => e1 (decide_eq_true z)
        subst e2
        exact q _ s5
    refine ⟨_, rfl, (by show 2 ≤ sizeLine; decide), fun t5 h5 => ?_⟩
    have s6 := sameUpd (o := .tup [V.ref (Cs .zero), V.ref (Cs .run)]) s5 h5
    refine ⟨_, t5, _, _, _, _, rfl, upd_same, .cons (.own _) (.cons (.own _) .nil), (PC.q _).ty (s6 _ _ ea), kitOr (PC.isi k .zero) (PC.isi k .run), _, rfl, ?_⟩
    refine ite2 (fun e => ?_) (fun n5 => ?_)
    · refine ⟨_, rfl, _, _, _, _, _, rfl, .own _, (PC.q _).ty (s6 _ _ ea), PC.isi k .zero, _, rfl, ?_⟩
      refine ite2 (fun e1 => ?_) (fun e1 => ?_)
      · have e1 : k = .zero := of_decide_eq_true e1
        subst e1
        exact q _ s6
      · rw [Bool.or_eq_true, decide_eq_true_eq, decide_eq_true_eq] at e
        have e2 : k = .run := e.resolve_left fun z => e1 (decide_eq_true z)
        subst e2
        exact q _ s6
    have e : k = .halt := by
      cases k <;> first | rfl | (exfalso; first | exact n0 rfl | exact n1 rfl | exact n2 rfl | exact n3 rfl | exact n4 rfl | exact n5 rfl)
    subst e
    refine ⟨_, rfl, _, _, _, _, _, rfl, .own _, (PC.q _).ty (s6 _ _ ea), PC.isi .halt .halt, _, rfl, ?_⟩
    exact iteT (q _ s6)
theorem scLRow : FnScope ["_law_piece_here", "_law_word"] ["_law_piece_here"] (defScope sLRow) := ⟨rfl, rfl, rfl, by decide +kernel, rfl, by decide +kernel, by decide +kernel⟩
theorem ok_lrow {f : Addr} {fd : FuncData} {Cs : Pk → Addr} (F : Fun K "_law_row" "_law_row" sLRow f fd) (m : mg "_law_row" = some (.ref f)) (B : Bm mg) (PC : PkC K Cs) (Cl : HasF P w K mg base "_law_class" 1 ["_law_piece_here"] (spClass Cs)) : HasF P w K mg base "_law_row" 2 ["_law_piece_here"] (spRow Cs) := by
  refine ⟨f, fd, ?_, m, F.kp, F.binds fun _ _ _ _ _ _ us hl => by obtain ⟨_, rfl⟩ := us1 hl; exact rfl⟩
  obtain ⟨f1, fd1, Cl⟩ := Cl
  refine F.ok scLRow (fun vs H Q E h => ?_) (fun cdv A outer s H vs Q E hr h => ?_)
  · obtain ⟨a, b, rfl, _⟩ := h
    rfl
  · obtain ⟨a, p, rfl, ha, q⟩ := h
    obtain ⟨k, args⟩ := p
    obtain ⟨dx, ea⟩ := ha.ob
    have hg : k.sh.pw args = none := ha.good
    have hl := (good_args hg).1
    refine ⟨_, (pss_cons (ps_set (i := 1) scLRow.nd rfl (Or.inl rfl) (pe_call Cl.G hr (by rfl) Cl.m Cl.kp Cl.b .nil pass0 (pa_cons (pv 0) pa_nil)))
    (pss_cons (ps_if (pt_cmpR op_in_seq (pv 1) (pe_tup (pa_cons pe_str (pa_cons pe_str (pa_cons pe_str pa_nil)))) (by rfl)) (pss_one (ps_ret (pe_tup (pa_cons (pv 1) (pa_cons (pe_fld (pv 0) rfl) pa_nil))))) pss_nil)
    (pss_cons (ps_if (pt_cmpR op_in_seq (pv 1) (pe_tup (pa_cons pe_str (pa_cons pe_str (pa_cons pe_str pa_nil)))) (by rfl)) (pss_one (ps_ret (pe_tup (pa_cons (pv 1) (pa_cons (pe_fld (pv 0) rfl) (pa_cons (pe_fld (pv 0) rfl) pa_nil)))))) pss_nil)
    (pss_cons (ps_if (pt_cmpR op_in_seq (pv 1) (pe_tup (pa_cons pe_str (pa_cons pe_str pa_nil))) (by rfl)) (pss_one (ps_ret (pe_tup (pa_cons (pv 1) (pa_cons (pe_fld (pv 0) rfl) (pa_cons (pe_fld (pv 0) rfl) pa_nil)))))) pss_nil)
    (pss_one (ps_ret (pe_ifExp (pt_cmpR op_in_seq (pv 1) (pe_tup (pa_cons pe_str (pa_cons pe_str (pa_cons pe_str pa_nil)))) (by rfl)) (pe_tup (pa_cons (pv 1) (pa_cons (pe_fld (pv 0) rfl) pa_nil))) (pe_tup (pa_cons (pv 1) pa_nil))))))))), ?_⟩
    have fin : ∀ {H' : Hp} {t : Addr}, Same H H' → H' t = none → Q (.ref t) (upd H' t (.tup (.str k.word :: args))) := fun s' ht => q _ _ (s'.free ht) (s'.trans (sameUpd (Same.refl _) ht)) upd_same
    have nm : ∀ {s : Sh} {f : Str}, k.sh = s → f ∈ s.names → NoAttr K (Cs k) f := fun e hf => (PC.q k).no _ (by show _ ∈ k.sh.names; rw [e]; exact hf)
    refine ⟨_, rfl, a, k, args, rfl, ha, fun H1 s1 => ?_⟩
    refine ⟨_, rfl, (by show 3 ≤ sizeLine; decide), fun t0 h0 => ?_⟩
    have s2 := sameUpd (o := .tup [V.str "room", V.str "notroom", V.str "to"]) s1 h0
    refine ⟨t0, _, rfl, .inr (SqT.of upd_same), rfl, by decide, _, rfl, ?_⟩
    rw [if_neg Bool.false_ne_true, in_r]
    refine ite2 (fun e => ?_) (fun n1 => ?_)
    · have e : k.sh = .r := of_decide_eq_true e
      obtain ⟨x, rfl⟩ := whole_of (s := .r) (by rw [← e]; exact hl)
      exact ⟨_, rfl, _, rfl, a, _, dx, _, _, rfl, s2 _ _ ea, (PC.q k).cl, nm e (.head _), (by show (k.sh.names.zip [x]).lookup _ = _; rw [e]; exact zip_fst), (by show 2 ≤ sizeLine; decide), fun t ht => fin s2 ht⟩
    refine ⟨_, rfl, (by show 3 ≤ sizeLine; decide), fun t1 h1 => ?_⟩
    have s3 := sameUpd (o := .tup [V.str "is", V.str "isnot", V.str "put"]) s2 h1
    refine ⟨t1, _, rfl, .inr (SqT.of upd_same), rfl, by decide, _, rfl, ?_⟩
    rw [if_neg Bool.false_ne_true, in_s]
    refine ite2 (fun e => ?_) (fun n2 => ?_)
    · have e : k.sh = .s := of_decide_eq_true e
      obtain ⟨x, y, rfl⟩ := whole_of (s := .s) (by rw [← e]; exact hl)
      exact ⟨_, rfl, _, rfl, a, _, dx, _, _, rfl, s3 _ _ ea, (PC.q k).cl, nm e (.head _), (by show (k.sh.names.zip [x, y]).lookup _ = _; rw [e]; exact zip_fst), _, rfl, a, _, dx, _, _, rfl, s3 _ _ ea, (PC.q k).cl, nm e (.tail _ (.head _)), (by show (k.sh.names.zip [x, y]).lookup _ = _; rw [e]; exact zip_snd s_sw), (by show 3 ≤ sizeLine; decide), fun t ht => fin s3 ht⟩
    refine ⟨_, rfl, (by show 2 ≤ sizeLine; decide), fun t2 h2 => ?_⟩
    have s4 := sameUpd (o := .tup [V.str "least", V.str "below"]) s3 h2
    refine ⟨t2, _, rfl, .inr (SqT.of upd_same), rfl, by decide, _, rfl, ?_⟩
    rw [if_neg Bool.false_ne_true, in_c]
    refine ite2 (fun e => ?_) (fun n3 => ?_)
    · have e : k.sh = .c := of_decide_eq_true e
      obtain ⟨x, y, rfl⟩ := whole_of (s := .c) (by rw [← e]; exact hl)
      exact ⟨_, rfl, _, rfl, a, _, dx, _, _, rfl, s4 _ _ ea, (PC.q k).cl, nm e (.head _), (by show (k.sh.names.zip [x, y]).lookup _ = _; rw [e]; exact zip_fst), _, rfl, a, _, dx, _, _, rfl, s4 _ _ ea, (PC.q k).cl, nm e (.tail _ (.head _)), (by show (k.sh.names.zip [x, y]).lookup _ = _; rw [e]; exact zip_snd s_cn), (by show 3 ≤ sizeLine; decide), fun t ht => fin s4 ht⟩
    refine ⟨_, rfl, (by show 3 ≤ sizeLine; decide), fun t3 h3 => ?_⟩
    have s5 := sameUpd (o := .tup [V.str "zero", V.str "run", V.str "halt"]) s4 h3
    refine ⟨t3, _, rfl, .inr (SqT.of upd_same), rfl, by decide, _, rfl, ?_⟩
    rw [if_neg Bool.false_ne_true, in_k]
    refine ite2 (fun e => ?_) (fun n4 => ?_)
    · have e : k.sh = .k := of_decide_eq_true e
      obtain ⟨x, rfl⟩ := whole_of (s := .k) (by rw [← e]; exact hl)
      exact ⟨_, rfl, _, rfl, a, _, dx, _, _, rfl, s5 _ _ ea, (PC.q k).cl, nm e (.head _), (by show (k.sh.names.zip [x]).lookup _ = _; rw [e]; exact zip_fst), (by show 2 ≤ sizeLine; decide), fun t ht => fin s5 ht⟩
    · have e : k.sh = .n := by
        cases e : k.sh with
        | n => rfl
        | r => exact absurd (decide_eq_true e) n1
        | s => exact absurd (decide_eq_true e) n2
        | c => exact absurd (decide_eq_true e) n3
        | k => exact absurd (decide_eq_true e) n4
      have z1 : args = [] := whole_of (s := .n) (by rw [← e]; exact hl)
      subst z1
      exact ⟨_, rfl, (by show 1 ≤ sizeLine; decide), fun t ht => fin s5 ht⟩
end
end Kx

set_option maxHeartbeats 8000000
namespace Kx
open PySem L2
def cWords : List V := [V.str "room", V.str "notroom", V.str "is", V.str "isnot", V.str "same", V.str "apart", V.str "least", V.str "below"]
theorem pair_at {k : Pk} (h : k.cond = true) : ∃ j : Nat, j < 8 ∧ cWords[j]? = some (.str k.word) ∧ (∀ (m : Nat) (z' : V), m < j → cWords[m]? = some z' → eqV z' (.str k.word) = false) ∧ atI cWords ((j : Int) + 1 - 2 * ((j : Int) % 2)) = some (.str k.opp.word) := by
  have go : ∀ j : Nat, (j < 8 ∧ cWords[j]? = some (.str k.word) ∧ ((List.range j).all fun m => match cWords[m]? with | some z' => !eqV z' (.str k.word) | none => true) = true ∧ atI cWords ((j : Int) + 1 - 2 * ((j : Int) % 2)) = some (.str k.opp.word)) → ∃ j : Nat, j < 8 ∧ cWords[j]? = some (.str k.word) ∧ (∀ (m : Nat) (z' : V), m < j → cWords[m]? = some z' → eqV z' (.str k.word) = false) ∧ atI cWords ((j : Int) + 1 - 2 * ((j : Int) % 2)) = some (.str k.opp.word) := fun j ⟨a, b, c, d⟩ => ⟨j, a, b, fun m z' hm hz => by
    have q := List.all_eq_true.mp c m (List.mem_range.mpr hm)
    rw [hz] at q
    simpa using q, d⟩
  cases k with
  | room => exact go 0 (by decide +kernel)
  | notroom => exact go 1 (by decide +kernel)
  | is_ => exact go 2 (by decide +kernel)
  | isnot => exact go 3 (by decide +kernel)
  | same => exact go 4 (by decide +kernel)
  | apart => exact go 5 (by decide +kernel)
  | least => exact go 6 (by decide +kernel)
  | below => exact go 7 (by decide +kernel)
  | _ => cases h
def rEqP (K : PySem.W.Frag) (Cs : Pk → Addr) : R2 := fun x y H Q => ∃ k, rEqX K (Cs k) (spPEq Cs k) E0 x y H Q
theorem op_eqP {X : Cx} {Cs : Pk → Addr} (EM : EqM X.prog X.w X.K X.mg X.base Cs) (hr : Room 1 X.A) : OpR X (compareOp .Eq) (rEqP X.K Cs) := or_ex fun k => by
  obtain ⟨g, fd, M⟩ := EM k
  exact op_eqX M.M.at_ M.M.fn M.raw hr pass0
def rNeP (K : PySem.W.Frag) (Cs : Pk → Addr) : R2 := fun x y H Q => ∃ k, rNeX K (Cs k) (spPEq Cs k) E0 x y H Q
def NeM (K : PySem.W.Frag) (Cs : Pk → Addr) : Prop := ∀ k, PySem.W.findIn K (.ref (Cs k)) "__ne__" = some (some (.builtin "object.__ne__"))
theorem op_neP {X : Cx} {Cs : Pk → Addr} (PC : PkC X.K Cs) (NM : NeM X.K Cs) (EM : EqM X.prog X.w X.K X.mg X.base Cs) (hr : Room 2 X.A) : OpR X (compareOp .NotEq) (rNeP X.K Cs) := or_ex fun k => by
  obtain ⟨g, fd, M⟩ := EM k
  exact op_neX (PC.q k).cm (NM k) M.M.at_ M.M.fn M.raw hr pass0
def spPRight (Cs : Pk → Addr) : Sp := fun vs H Q _ => ∃ (r a : Addr) (p : Pc), vs = [.ref r, .ref a] ∧ RowA H r p ∧ PcA Cs H a p.1 p.2 ∧ ∀ H', Same H H' → Q (.bl true) H'
section
variable {P : Program} {w : World} {K : PySem.W.Frag} {mg : Str → Option Value} {base : Heap}
theorem opp_pw (k : Pk) (args : List V) : k.opp.sh.pw args = k.sh.pw args := by rw [opp_sh]
theorem scPRight : FnScope ["_law_row_here", "_law_piece_here", "_law_pairs", "_law_at", "_law_other", "_law_turned"] ["_law_row_here", "_law_piece_here"] (defScope sLPieceRight) := ⟨rfl, rfl, rfl, by decide +kernel, rfl, by decide +kernel, by decide +kernel⟩
theorem ok_pright {f Cc Ch : Addr} {fd : FuncData} {Cs : Pk → Addr} (F : Fun K "_law_piece_right" "_law_piece_right" sLPieceRight f fd) (m : mg "_law_piece_right" = some (.ref f)) (B : Bm mg) (PC : PkC K Cs) (PB : PkB K mg Cs Cc Ch) (NM : NeM K Cs) (EM : EqM P w K mg base Cs) (OM : OpM P w K mg base Cs) (Rw : HasF P w K mg base "_law_row" 2 ["_law_piece_here"] (spRow Cs)) : HasF P w K mg base "_law_piece_right" 7 ["_law_row_here", "_law_piece_here"] (spPRight Cs) := by
  refine ⟨f, fd, ?_, m, F.kp, F.binds fun _ _ _ _ _ _ us hl => by obtain ⟨_, _, rfl⟩ := us2 hl; exact rfl⟩
  obtain ⟨f1, fd1, Rw⟩ := Rw
  refine F.ok scPRight (fun vs H Q E h => ?_) (fun cdv A outer s H vs Q E hr h => ?_)
  · obtain ⟨a, b, c, rfl, _⟩ := h
    rfl
  · obtain ⟨r, a, p, rfl, hrow, ha, q⟩ := h
    have hr1 : Room 1 _ := hr.mono (by decide)
    have hr2 : Room 2 _ := hr.mono (by decide)
    refine ⟨_, (C8.pss_cut (ps_set (i := 2) scPRight.nd rfl (Or.inl rfl) (pe_lst (pa_cons pe_str (pa_cons pe_str (pa_cons pe_str (pa_cons pe_str (pa_cons pe_str (pa_cons pe_str (pa_cons pe_str (pa_cons pe_str pa_nil))))))))))
    (C8.pss_cut (ps_if (pt_cmpR (op_neD hr.units) (pe_call Rw.G hr2 (by rfl) Rw.m Rw.kp Rw.b .nil pass0 (pa_cons (pv 1) pa_nil)) (pv 0) (nomark _)) (pss_one (ps_ret pe_bl)) pss_nil)
    (C8.pss_cut (ps_if (pt_cmpR op_notIn_seq (pe_ix ix_tup (pv 0) pe_int (fun _ _ => rfl)) (pv 2) (by rfl)) (pss_one (ps_ret (pe_and (pe_callB call_isi (by rfl) B.isinstance (by decide +kernel) (pa_cons (pv 1) (pa_cons (pe_glob (v := .ref Ch) rfl PB.mh rfl) pa_nil))) (pe_one (pe_not (pe_callB call_isi (by rfl) B.isinstance (by decide +kernel) (pa_cons (pv 1) (pa_cons (pe_glob (v := .ref Cc) rfl PB.mc rfl) pa_nil)))))))) pss_nil)
    (C8.pss_cut (ps_set (i := 3) scPRight.nd rfl (Or.inl rfl) (pe_bm PySem.F.plainAttrs_list PySem.F.slot_list_index PySem.F.type_list_index mt_index (pv 2) (pa_cons (pe_ix ix_tup (pv 0) pe_int (fun _ _ => rfl)) pa_nil)))
    (C8.pss_cut (ps_set (i := 4) scPRight.nd rfl (Or.inl rfl) (pe_ex (t := tOpp Cs 1 E0) (fun k => by
        obtain ⟨g, fd, O⟩ := OM k.1 k.2
        exact pe_meth0 (pv 1) (PC.q _).cl O.M O.G hr O.b .nil pass0)))
    (C8.pss_cut (ps_set (i := 5) scPRight.nd rfl (Or.inl rfl) (pe_op op_catA (pe_tup (pa_cons (pe_ix ix_list (pv 2) (pe_op op_sub (pe_op op_add (pv 3) pe_int) (pe_op op_mul pe_int (pe_op op_mod (pv 3) pe_int))) (fun _ _ => rfl)) pa_nil)) (pe_slice sl_tupA (pv 0) (po_some pe_int) po_none)))
    (pss_one (ps_ret (pe_and (pe_callB call_isi (by rfl) B.isinstance (by decide +kernel) (pa_cons (pv 1) (pa_cons (pe_glob (v := .ref Cc) rfl PB.mc rfl) pa_nil))) (pe_and (pe_cmpR (op_eqD hr.units) (pe_call Rw.G hr2 (by rfl) Rw.m Rw.kp Rw.b .nil pass0 (pa_cons (pv 4) pa_nil)) (pv 5) (nomark _)) (pe_and (pe_cmpR (op_neP (Cs := Cs) PC NM EM hr2) (pv 4) (pv 1) (nomark _))
        (pe_one (pe_cmpR (op_eqP (Cs := Cs) EM hr1) (pe_ex (t := tOpp Cs 4 E0) (fun k => by
          obtain ⟨g, fd, O⟩ := OM k.1 k.2
          exact pe_meth0 (pv 4) (PC.q _).cl O.M O.G hr O.b .nil pass0)) (pv 1) (nomark _)))))))))))))), ?_⟩
    have ok := ha.good
    obtain ⟨dx, ea⟩ := ha.ob
    -- the pairs
    refine ⟨fun σ H1 => ∃ l, σ = [some (.ref r), some (.ref a), some (.ref l), none, none, none] ∧ Same H H1 ∧ H1 l = some (.lst cWords), ?_, ?_⟩
    · exact ⟨(by show 8 ≤ sizeLine; decide), fun l hl => ⟨l, rfl, sameUpd (Same.refl _) hl, upd_same⟩⟩
    rintro σ H1 ⟨l, rfl, s1, hl⟩
    -- the row
    refine ⟨fun σ H2 => σ = [some (.ref r), some (.ref a), some (.ref l), none, none, none] ∧ Same H1 H2, ?_, ?_⟩
    · refine ⟨_, rfl, a, p, rfl, ha.keep s1, fun t H2 ht s2 hp => ⟨_, rfl, dRow p, dRow p, hp.dp ok, RowA.dp ((s1.trans s2) _ _ hrow) ok, shaped_row ok, shaped_row ok, _, rfl, ?_⟩⟩
      rw [eqv_row ok ok, decide_eq_true rfl]
      exact iteF ⟨rfl, s2⟩
    rintro σ H2 ⟨rfl, s2⟩
    have s02 := s1.trans s2
    -- a change
    refine ⟨fun σ H3 => p.1.cond = true ∧ σ = [some (.ref r), some (.ref a), some (.ref l), none, none, none] ∧ H3 = H2, ?_, ?_⟩
    · refine ⟨_, rfl, r, _, _, _, rfl, rfl, SqT.of (s02 _ _ hrow), atI0 _ _, _, rfl, l, cWords, rfl, .inl (SqL.of (s2 _ _ hl)), rfl, by decide, _, rfl, ?_⟩
      rw [if_pos rfl, show inV (.str p.1.word) cWords = p.1.cond from in_words p.1]
      cases hc : p.1.cond with
      | true => exact iteF ⟨rfl, rfl, rfl⟩
      | false =>
        refine iteT ⟨_, rfl, _, _, _, _, _, rfl, .own _, (PC.q _).ty (s02 _ _ ea), PB.ch _, _, rfl, ?_⟩
        rw [hc]
        refine iteT ⟨_, rfl, _, _, _, _, _, rfl, .own _, (PC.q _).ty (s02 _ _ ea), PB.co _, _, rfl, ?_⟩
        rw [hc]
        exact q _ s02
    rintro σ H3 ⟨hc, rfl, rfl⟩
    obtain ⟨j, j8, hj, jm, jo⟩ := pair_at hc
    -- its place
    refine ⟨fun σ H4 => σ = [some (.ref r), some (.ref a), some (.ref l), some (.int (j : Nat)), none, none] ∧ H4 = H3, ?_, ?_⟩
    · refine ⟨_, rfl, .inl ⟨rfl, _, SqL.of (s2 _ _ hl)⟩, _, rfl, r, _, _, _, rfl, rfl, SqT.of (s02 _ _ hrow), atI0 _ _, ?_⟩
      exact ⟨l, cWords, _, j, _, rfl, rfl, SqL.of (s2 _ _ hl), rfl, by decide, hj, by simp [eqV], jm, rfl, rfl⟩
    rintro σ H4 ⟨rfl, rfl⟩
    -- the other one
    refine ⟨fun σ H5 => ∃ o, σ = [some (.ref r), some (.ref a), some (.ref l), some (.int (j : Nat)), some (.ref o), none] ∧ Same H4 H5 ∧ PcA Cs H5 o p.1.opp p.2, ?_, ?_⟩
    · refine ⟨⟨p.1, hc⟩, _, rfl, a, dx, _, rfl, s02 _ _ ea, zip_no (no_opp _), ?_⟩
      exact ⟨a, p.2, rfl, ha.keep s02, fun o H5 ho s5 hp => ⟨o, rfl, s5, hp⟩⟩
    rintro σ H5 ⟨o, rfl, s5, hpo⟩
    have s05 := s02.trans s5
    -- turned about
    refine ⟨fun σ H6 => ∃ u, σ = [some (.ref r), some (.ref a), some (.ref l), some (.int (j : Nat)), some (.ref o), some (.ref u)] ∧ Same H5 H6 ∧ RowA H6 u (oppP p), ?_, ?_⟩
    · refine ⟨_, rfl, _, rfl, _, _, rfl, rfl, _, rfl, _, _, rfl, rfl, (by show (0 : Int) < 2; decide), _, _, rfl, rfl, .inl ⟨by decide, by decide⟩, _, _, rfl, rfl, ?_⟩
      refine ⟨l, cWords, _, _, rfl, rfl, SqL.of (s5 _ _ (s2 _ _ hl)), jo, (by show 1 ≤ sizeLine; decide), fun t1 h1 => ?_⟩
      have st1 := sameUpd (o := .tup [V.str p.1.opp.word]) (Same.refl H5) h1
      have w1 : ¬ (HT.sIx (V.str p.1.word :: p.2).length 0 (some (1 : Int)) = 0 ∧ HT.sIx (V.str p.1.word :: p.2).length (V.str p.1.word :: p.2).length none = (V.str p.1.word :: p.2).length) := fun e => by
        have e1 := e.1
        simp [HT.sIx] at e1
      have l2 : p.2.length ≤ 2 := by rw [(good_args ok).1]; cases p.1.sh <;> decide
      have cd : cutV (V.str p.1.word :: p.2) (some (1 : Int)) none = p.2 := cut_drop (V.str p.1.word :: p.2) 1 (by simp)
      have hr5 : SqT K (upd H5 t1 (.tup [V.str p.1.opp.word])) r (.str p.1.word :: p.2) := SqT.of (st1 _ _ (s05 _ _ hrow))
      refine ⟨_, rfl, _, rfl, r, _, rfl, hr5, fun e => absurd e w1, fun _ t2 h2 => ?_⟩
      rw [cd]
      have st2 := sameUpd (o := .tup p.2) st1 h2
      have t12 : t1 ≠ t2 := ne_of_none upd_same h2
      refine ⟨t1, t2, [V.str p.1.opp.word], p.2, rfl, rfl, SqT.of (by rw [upd_ne t12]; exact upd_same), SqT.of upd_same, Nat.le_of_lt (line2 (by simp; omega)), fun e => absurd e (List.cons_ne_nil _ _), fun _ e => ?_, fun _ _ t3 h3 => ?_⟩
      · refine ⟨t1, rfl, st2, ?_⟩
        show upd (upd H5 t1 _) t2 _ t1 = some (.tup (.str p.1.opp.word :: p.2))
        rw [upd_ne t12, upd_same, e]
      · exact ⟨t3, rfl, sameUpd st2 h3, upd_same⟩
    rintro σ H6 ⟨u, rfl, s6, hu⟩
    have s06 := s05.trans s6
    have oko : (oppP p).ok := (opp_pw p.1 p.2).trans ok
    refine ⟨_, rfl, _, _, _, _, _, rfl, .own _, (PC.q _).ty (s06 _ _ ea), PB.co _, _, rfl, ?_⟩
    rw [hc]
    refine iteT ⟨_, rfl, o, oppP p, rfl, hpo.keep s6, fun t H7 ht s7 hp7 => ?_⟩
    have s57 := s6.trans s7
    refine ⟨_, rfl, dRow (oppP p), dRow (oppP p), hp7.dp oko, RowA.dp (s7 _ _ hu) oko, shaped_row oko, shaped_row oko, _, rfl, ?_⟩
    rw [eqv_row oko oko, decide_eq_true rfl]
    have hpo7 := hpo.keep s57
    have ha7 := ha.keep (s05.trans s57)
    obtain ⟨do_, eo⟩ := hpo7.ob
    obtain ⟨da, ea7⟩ := ha7.ob
    refine iteT ⟨_, rfl, _, rfl, p.1.opp, o, do_, _, _, rfl, eo, (PC.q _).ty ea7, PC.nf _ _, o, .ref a, p.2, rfl, hpo7, .inl ⟨a, p.1, p.2, rfl, ha7, _, rfl, _, rfl, ?_⟩⟩
    rw [decide_eq_false (fun e => opp_ne hc e.1)]
    have hco : p.1.opp.cond = true := (opp_cond p.1).trans hc
    refine iteT ⟨⟨p.1.opp, hco⟩, _, rfl, o, do_, _, rfl, eo, zip_no (no_opp _), ?_⟩
    refine ⟨o, p.2, rfl, hpo7, fun b H8 hb s8 hp8 => ⟨_, rfl, ?_⟩⟩
    have hp8 : PcA Cs H8 b p.1 p.2 := by rw [opp_opp] at hp8; exact hp8
    have ha8 := ha7.keep s8
    obtain ⟨db, eb⟩ := hp8.ob
    obtain ⟨da8, ea8⟩ := ha8.ob
    refine ⟨p.1, b, db, _, _, rfl, eb, (PC.q _).ty ea8, PC.nf _ _, b, .ref a, p.2, rfl, hp8, .inl ⟨a, p.1, p.2, rfl, ha8, _, rfl, ?_⟩⟩
    rw [decide_eq_true ⟨rfl, rfl⟩]
    exact q H8 ((s05.trans s57).trans s8)
end
end Kx

set_option maxHeartbeats 8000000
namespace Kx
open PySem L2
/-- a drawn row with its first word -/
def spDrawn : Sp := fun vs H Q _ => ∃ (p q : Addr), vs = [.ref p] ∧ HandAt H p q ∧ ∀ (t r : Addr) (k : Pk) (args : List V) H', wo p H' t = some (.tup [.ref r, wordV (k.pw args)]) → wo p H' r = some (.tup (.str k.word :: args)) → args.length = k.names.length → Things (wo p H') args → HandAt H' p q → Keep H H' p → Q (.ref t) H'
section
variable {P : Program} {w : World} {K : PySem.W.Frag} {mg : Str → Option Value} {base : Heap}
theorem scDrawn : FnScope ["_law_hand_here", "_law_word", "_law_names", "_law_row_here", "_law_name"] ["_law_hand_here"] (defScope sLDrawnPiece) := ⟨rfl, rfl, rfl, by decide +kernel, rfl, by decide +kernel, by decide +kernel⟩
theorem ok_drawn {f : Addr} {fd : FuncData} (F : Fun K "_law_drawn_piece" "_law_drawn_piece" sLDrawnPiece f fd) (m : mg "_law_drawn_piece" = some (.ref f)) (O : HasF P w K mg base "_law_one" 3 ["_law_hand_here", "_law_rows"] spOne) (Wd : HasF P w K mg base "_law_words" 1 [] spWords) (Nu : HasF P w K mg base "_law_number" 4 ["_law_hand_here"] spThing) (Th : HasF P w K mg base "_law_thing" 4 ["_law_hand_here"] spThing) (PW : HasF P w K mg base "_law_piece_word" 2 ["_law_row_here", "_law_names"] spPWord) : HasF P w K mg base "_law_drawn_piece" 5 ["_law_hand_here"] spDrawn := by
  refine ⟨f, fd, ?_, m, F.kp, F.binds fun _ _ _ _ _ _ us hl => by obtain ⟨_, rfl⟩ := us1 hl; exact rfl⟩
  obtain ⟨f1, fd1, O⟩ := O; obtain ⟨f2, fd2, Wd⟩ := Wd; obtain ⟨f3, fd3, Nu⟩ := Nu; obtain ⟨f4, fd4, Th⟩ := Th; obtain ⟨f5, fd5, PW⟩ := PW
  refine F.ok scDrawn (fun vs H Q E h => ?_) (fun cdv A outer s H vs Q E hr h => ?_)
  · obtain ⟨a, b, rfl, _⟩ := h
    rfl
  · obtain ⟨p, q, rfl, hp, k⟩ := h
    have hr1 : Room 1 _ := hr.mono (by decide)
    have hr2 : Room 2 _ := hr.mono (by decide)
    have hr3 : Room 3 _ := hr.mono (by decide)
    refine ⟨_, (C8.pss_cut (ps_asg (pe_call O.G hr3 (by rfl) O.m O.kp O.b .nil pass0 (pa_cons (pv 0) (pa_cons (pe_call0 Wd.G hr1 (by rfl) Wd.m Wd.kp Wd.b .nil pass0) pa_nil))) (pg_tup rfl (pgs_cons (pg_name (i := 1) scDrawn.nd rfl (.inl rfl)) (pgs_cons (pg_name (i := 2) scDrawn.nd rfl (.inl rfl)) pgs_nil))))
    (C8.pss_cut (ps_set (i := 3) scDrawn.nd rfl (Or.inl rfl) (pe_tup (pa_cons (pv 1) pa_nil)))
    (C8.pss_cut (ps_for PassesOwn.never rfl (pi_list (pv 2)) (pg_name (i := 4) scDrawn.nd rfl (.inl rfl))
        (pss_one (ps_set (i := 3) scDrawn.nd rfl (Or.inl rfl) (pe_op op_catA (pv 3) (pe_tup (pa_cons (pe_ifExp (pt_cmpR op_eq (pv 4) pe_str (nomark _)) (pe_call Nu.G hr (by rfl) Nu.m Nu.kp Nu.b .nil pass0 (pa_cons (pv 0) pa_nil)) (pe_call Th.G hr (by rfl) Th.m Th.kp Th.b .nil pass0 (pa_cons (pv 0) pa_nil))) pa_nil))))))
    (pss_one (ps_ret (pe_tup (pa_cons (pv 3) (pa_cons (pe_call PW.G hr2 (by rfl) PW.m PW.kp PW.b .nil pass0 (pa_cons (pv 3) (pa_cons (pv 2) pa_nil))) pa_nil)))))))), ?_⟩
    -- the word
    refine ⟨fun σ H1 => ∃ (kd : Pk) (n : Addr), σ = [some (.ref p), some (.str kd.word), some (.ref n), none, none] ∧ H1 n = some (.lst (kd.names.map V.str)) ∧ n ≠ p ∧ HandAt H1 p q ∧ Keep H H1 p, ?_, ?_⟩
    · refine ⟨_, rfl, rfl, fun l xs H1 s1 hl l13 wd => ?_⟩
      obtain ⟨l0, hl1⟩ := nw_get hl
      refine ⟨p, q, l, xs, rfl, hp.same s1, hl1, hp.ap l0, by omega, by omega, fun x H2 hx hp2 k2 => ?_⟩
      obtain ⟨kd, t, n, rfl, ht, hn⟩ := wd x hx
      obtain ⟨t0, ht⟩ := nw_get ht
      obtain ⟨n0, hn⟩ := nw_get hn
      refine ⟨t, _, rfl, SqT.of (k2 _ _ ht (hp.ap t0)), rfl, _, _, rfl, _, _, rfl, rfl, kd, n, rfl, k2 _ _ hn (hp.ap n0), hp.ap n0, hp2, fun b o e ne => k2 b o (s1 b o e) ne⟩
    rintro σ H1 ⟨kd, n, rfl, hn, np, hp1, k1⟩
    -- the row's beginning
    refine ⟨fun σ H2 => ∃ r, σ = [some (.ref p), some (.str kd.word), some (.ref n), some (.ref r), none] ∧ H2 n = some (.lst (kd.names.map V.str)) ∧ wo p H2 r = some (.tup [.str kd.word]) ∧ HandAt H2 p q ∧ Keep H H2 p, ?_, ?_⟩
    · refine ⟨_, rfl, (by show 1 ≤ sizeLine; decide), fun r hr0 => ?_⟩
      have s2 := sameUpd (o := .tup [V.str kd.word]) (Same.refl H1) hr0
      exact ⟨r, rfl, s2 _ _ hn, wo_at upd_same (hp1.ap hr0), hp1.same s2, fun b o e ne => s2 b o (k1 b o e ne)⟩
    rintro σ H2 ⟨r, rfl, hn2, hr2', hp2, k2⟩
    -- thing by thing
    refine ⟨fun σ H3 => ∃ (r' : Addr) (args : List V) (v4 : Option V), σ = [some (.ref p), some (.str kd.word), some (.ref n), some (.ref r'), v4] ∧ H3 n = some (.lst (kd.names.map V.str)) ∧ wo p H3 r' = some (.tup (.str kd.word :: args)) ∧ args.length = kd.names.length ∧ Things (wo p H3) args ∧ HandAt H3 p q ∧ Keep H H3 p, ?_, ?_⟩
    · refine ⟨_, rfl, n, rfl, ⟨_, SqL.of hn2⟩, for_list (K := K) (a := n) (xs := kd.names.map V.str) (fun i σ H3 => ∃ (r' : Addr) (args : List V) (v4 : Option V), σ = [some (.ref p), some (.str kd.word), some (.ref n), some (.ref r'), v4] ∧ H3 n = some (.lst (kd.names.map V.str)) ∧ wo p H3 r' = some (.tup (.str kd.word :: args)) ∧ args.length = i ∧ Things (wo p H3) args ∧ HandAt H3 p q ∧ Keep H H3 p)
        ⟨r, [], none, rfl, hn2, hr2', rfl, (fun x m => nomatch m), hp2, k2⟩ (fun i σ H3 _ ⟨_, _, _, _, h, _⟩ => SqL.of h) ?_ ?_⟩
      · rintro i y σ H3 hi ⟨r', args, v4, rfl, hn3, hr3', al, ta, hp3, k3⟩
        obtain ⟨a, rfl, ea⟩ : ∃ a, y = .str a ∧ kd.names[i]? = some a := by
          rw [List.getElem?_map] at hi
          cases e : kd.names[i]? with
          | none => rw [e] at hi; cases hi
          | some a => rw [e] at hi; exact ⟨a, (Option.some.inj hi).symm, rfl⟩
        have lt : i < kd.names.length := (List.getElem?_eq_some_iff.mp ea).1
        have l2 : kd.names.length ≤ 2 := by show kd.sh.names.length ≤ 2; cases kd.sh <;> decide
        obtain ⟨hr3a, rp⟩ := wo_get hr3'
        have drawn : ∀ x nx H4 (Q' : VK), Thing (wo p H4) x nx → HandAt H4 p q → Keep H3 H4 p → (∀ (r'' : Addr) (args' : List V) H5, H5 n = some (.lst (kd.names.map V.str)) → wo p H5 r'' = some (.tup (.str kd.word :: args')) → args'.length = i + 1 → Things (wo p H5) args' → HandAt H5 p q → Keep H H5 p → Q' (.ref r'') H5) → 1 ≤ sizeLine ∧ ∀ t1, H4 t1 = none → rCatA K (.ref r') (.ref t1) (upd H4 t1 (.tup [x])) Q' := fun x nx H4 Q' tx hp4 k4 kk => by
          refine ⟨by decide, fun t1 h1 => ?_⟩
          have s5 := sameUpd (o := .tup [x]) (Same.refl H4) h1
          refine ⟨r', t1, _, _, rfl, rfl, SqT.of (s5 _ _ (k4 _ _ hr3a rp)), SqT.of upd_same, Nat.le_of_lt (line2 (by simp; omega)), fun e => absurd e (List.cons_ne_nil _ _), fun _ e => absurd e (List.cons_ne_nil _ _), fun _ _ t2 h2 => ?_⟩
          have s6 := sameUpd (o := .tup (V.str kd.word :: args ++ [x])) s5 h2
          have k6 : Keep H3 (upd (upd H4 t1 (.tup [x])) t2 (.tup (V.str kd.word :: args ++ [x]))) p := fun b o e ne => s6 b o (k4 b o e ne)
          refine kk t2 (args ++ [x]) _ (k6 _ _ hn3 np) (wo_at upd_same ((hp4.same s5).ap h2)) (by simp [al]) (fun z hz => ?_) (hp4.same s6) (k3.trans k6)
          rcases List.mem_append.mp hz with hz | hz
          · obtain ⟨m', t⟩ := ta z hz
            exact ⟨m', t.keep (wo_keep k6)⟩
          · rw [List.mem_singleton.mp hz]
            exact ⟨nx, tx.keep (wo_keep (Same.keep s6))⟩
        refine ⟨_, rfl, _, rfl, rfl, _, rfl, ?_⟩
        refine ite2 (fun _ => ?_) (fun _ => ?_)
        · exact ⟨_, rfl, p, q, rfl, hp3, fun x nx H4 tx hp4 k4 => drawn x nx H4 _ tx hp4 k4 fun r'' args' H5 a b c d e g => ⟨r'', args', _, rfl, a, b, c, d, e, g⟩⟩
        · exact ⟨_, rfl, p, q, rfl, hp3, fun x nx H4 tx hp4 k4 => drawn x nx H4 _ tx hp4 k4 fun r'' args' H5 a b c d e g => ⟨r'', args', _, rfl, a, b, c, d, e, g⟩⟩
      · rintro σ H3 ⟨r', args, v4, rfl, hn3, hr3', al, ta, hp3, k3⟩
        exact ⟨r', args, v4, rfl, hn3, hr3', by rw [al, List.length_map], ta, hp3, k3⟩
    rintro σ H3 ⟨r', args, v4, rfl, hn3, hr3', al, ta, hp3, k3⟩
    obtain ⟨hr3a, rp⟩ := wo_get hr3'
    refine ⟨_, rfl, _, rfl, _, rfl, r', n, kd, args, rfl, hr3a, hn3, al, ta.keep wo_same, fun H4 s4 => ⟨(by show 2 ≤ sizeLine; decide), fun t ht => ?_⟩⟩
    have s5 := sameUpd (o := .tup [.ref r', wordV (kd.pw args)]) s4 ht
    exact k t r' kd args _ (wo_at upd_same ((hp3.same s4).ap ht)) (wo_keep (Same.keep s5) _ _ hr3') al (ta.keep (wo_keep (Same.keep s5))) (hp3.same s5) (fun b o e ne => s5 b o (k3 b o e ne))
end
end Kx

set_option maxHeartbeats 8000000
namespace Kx
open PySem L2
/-- no person is called so -/
def nice (p : Pc) : Prop := whatOf p ≠ some (.str "same") ∧ whatOf p ≠ some (.str "apart")
theorem nice_k {k : Pk} {args : List V} (h : k.sh ≠ .s) : nice (k, args) := by
  have e : whatOf (k, args) = none := if_neg h
  unfold nice
  rw [e]
  exact ⟨(fun z => nomatch z), (fun z => nomatch z)⟩
theorem nice_s {k : Pk} {s x : V} (h : x ≠ .str "same") (h' : x ≠ .str "apart") : nice (k, [s, x]) := by
  by_cases e : k.sh = .s
  · have e : whatOf (k, [s, x]) = some x := if_pos e
    unfold nice
    rw [e]
    exact ⟨fun z => h (Option.some.inj z), fun z => h' (Option.some.inj z)⟩
  · exact nice_k e
/-- a row of a clause, or None -/
def RowV (N : Hp) (x : V) (o : Option Pc) : Prop := match o with
  | none => x = .non
  | some p => ∃ t, x = .ref t ∧ RowA N t p ∧ p.ok ∧ nice p
theorem RowV.keep {H H' : Hp} {x : V} {o : Option Pc} (h : RowV H x o) (s : Same H H') : RowV H' x o := by
  cases o with
  | none => exact h
  | some p => obtain ⟨t, e, h1, h2⟩ := h; exact ⟨t, e, s _ _ h1, h2⟩
def spFew : Sp := fun vs H Q _ => ∃ (p q : Addr) (c : Bool), vs = [.ref p, .bl c] ∧ HandAt H p q ∧ ∀ x o H', RowV (wo p H') x o → (c = false → ∀ y, o = some y → y.1.cond = true ∨ y.1 = .zero) → (c = true → ∀ y, o = some y → y.1.cond = false ∨ y.1 = .room) → HandAt H' p q → Keep H H' p → Q x H'
theorem one_strs {σ : L2.St} {H : Hp} {Q : VK} {E : XK} {p q : Addr} {ss : List Str} (h0 : σ[0]? = some (some (V.ref p))) (hp : HandAt H p q) (l0 : 0 < ss.length) (l1 : ss.length ≤ 1000) (k : ∀ s H', s ∈ ss → HandAt H' p q → Keep H H' p → Q (.str s) H') : tCall spOne [] E (tCons (tVar 0) (tCons (tLst (tStrs ss)) tNil)) σ H Q := by
  refine ⟨_, h0, ?_⟩
  show tStrs ss σ H fun xs H1 => xs.length ≤ sizeLine ∧ ∀ l, H1 l = none → spOne ([V.ref p, V.ref l] ++ []) (upd H1 l (.lst xs)) Q E
  refine strs_read ⟨Nat.le_of_lt (line2 (by rw [List.length_map]; omega)), fun l hl => ?_⟩
  have s1 := sameUpd (o := .lst (ss.map V.str)) (Same.refl H) hl
  refine ⟨p, q, l, _, rfl, hp.same s1, upd_same, hp.ap hl, by rw [List.length_map]; exact l0, by rw [List.length_map]; exact l1, fun x H' hx hp' k' => ?_⟩
  obtain ⟨s, hs, rfl⟩ := List.mem_map.mp hx
  exact k s H' hs hp' fun b o e ne => k' b o (s1 b o e) ne
section
variable {P : Program} {w : World} {K : PySem.W.Frag} {mg : Str → Option Value} {base : Heap}
theorem scFew : FnScope ["_law_hand_here", "_law_change", "_law_seat", "_law_whats", "_law_way"] ["_law_hand_here", "_law_change"] (defScope sLFew) := ⟨rfl, rfl, rfl, by decide +kernel, rfl, by decide +kernel, by decide +kernel⟩
theorem ok_few {f : Addr} {fd : FuncData} (F : Fun K "_law_few" "_law_few" sLFew f fd) (m : mg "_law_few" = some (.ref f)) (D : HDraw P w K mg base) (O : HasF P w K mg base "_law_one" 3 ["_law_hand_here", "_law_rows"] spOne) : HasF P w K mg base "_law_few" 4 ["_law_hand_here", "_law_change"] spFew := by
  refine ⟨f, fd, ?_, m, F.kp, F.binds fun _ _ _ _ _ _ us hl => by obtain ⟨_, _, rfl⟩ := us2 hl; exact rfl⟩
  obtain ⟨f1, fd1, D⟩ := D; obtain ⟨f2, fd2, O⟩ := O
  refine F.ok scFew (fun vs H Q E h => ?_) (fun cdv A outer s H vs Q E hr h => ?_)
  · obtain ⟨a, b, c, rfl, _⟩ := h
    rfl
  · obtain ⟨p, q, c, rfl, hp, k⟩ := h
    have hr2 : Room 2 _ := hr.mono (by decide)
    refine ⟨_, (C8.pss_cut (ps_if (pt_cmpR op_eq (pe_call D.G hr2 (by rfl) D.m D.kp D.b .nil pass0 (pa_cons (pv 0) (pa_cons pe_int pa_nil))) pe_int (nomark _)) (pss_one (ps_ret (pe_call O.G hr (by rfl) O.m O.kp O.b .nil pass0 (pa_cons (pv 0) (pa_cons (pe_lst (pa_cons (pe_tup (pa_cons pe_str (pa_cons pe_str pa_nil))) (pa_cons (pe_tup (pa_cons pe_str (pa_cons pe_str pa_nil))) (pa_cons pe_non pa_nil)))) pa_nil))))) pss_nil)
    (C8.pss_cut (ps_set (i := 2) scFew.nd rfl (Or.inl rfl) (pe_call O.G hr (by rfl) O.m O.kp O.b .nil pass0 (pa_cons (pv 0) (pa_cons (pe_lst (pa_cons pe_str (pa_cons pe_str pa_nil))) pa_nil))))
    (C8.pss_cut (ps_set (i := 3) scFew.nd rfl (Or.inl rfl) (pe_lst (pa_cons pe_str (pa_cons pe_str (pa_cons pe_str (pa_cons (pe_ifExp (pt_cmpR op_eq (pv 2) pe_str (nomark _)) pe_str pe_str) pa_nil))))))
    (C8.pss_cut (ps_if (pt_val (pv 1)) (pss_cons (ps_set (i := 4) scFew.nd rfl (Or.inl rfl) (pe_call D.G hr2 (by rfl) D.m D.kp D.b .nil pass0 (pa_cons (pv 0) (pa_cons pe_int pa_nil))))
    (pss_cons (ps_if (pt_cmpR op_lt (pv 4) pe_int (nomark _)) (pss_one (ps_ret (pe_tup (pa_cons pe_str (pa_cons (pe_ifExp (pt_cmpR op_lt (pv 4) pe_int (nomark _)) (pv 2) pe_str) (pa_cons (pe_call O.G hr (by rfl) O.m O.kp O.b .nil pass0 (pa_cons (pv 0) (pa_cons (pe_slice sl_list (pv 3) po_none (po_some pe_int)) pa_nil))) pa_nil)))))) pss_nil)
    (pss_one (ps_ret (pe_ifExp (pt_cmpR op_eq (pv 4) pe_int (nomark _)) (pe_tup (pa_cons pe_str (pa_cons pe_str pa_nil))) (pe_tup (pa_cons (pe_call O.G hr (by rfl) O.m O.kp O.b .nil pass0 (pa_cons (pv 0) (pa_cons (pe_lst (pa_cons pe_str (pa_cons pe_str (pa_cons pe_str pa_nil)))) pa_nil))) (pa_cons (pe_call O.G hr (by rfl) O.m O.kp O.b .nil pass0 (pa_cons (pv 0) (pa_cons (pe_lst (pa_cons pe_str (pa_cons pe_str pa_nil))) pa_nil))) pa_nil)))))))) pss_nil)
    (pss_cons (ps_set (i := 4) scFew.nd rfl (Or.inl rfl) (pe_call D.G hr2 (by rfl) D.m D.kp D.b .nil pass0 (pa_cons (pv 0) (pa_cons pe_int pa_nil))))
    (pss_cons (ps_if (pt_cmpR op_eq (pv 4) pe_int (nomark _)) (pss_one (ps_ret (pe_tup (pa_cons (pe_call O.G hr (by rfl) O.m O.kp O.b .nil pass0 (pa_cons (pv 0) (pa_cons (pe_lst (pa_cons pe_str (pa_cons pe_str pa_nil))) pa_nil))) (pa_cons (pe_call O.G hr (by rfl) O.m O.kp O.b .nil pass0 (pa_cons (pv 0) (pa_cons (pe_lst (pa_cons pe_str (pa_cons pe_str pa_nil))) pa_nil))) pa_nil))))) pss_nil)
    (pss_cons (ps_if (pt_cmpR op_eq (pv 4) pe_int (nomark _)) (pss_one (ps_ret (pe_tup (pa_cons (pe_call O.G hr (by rfl) O.m O.kp O.b .nil pass0 (pa_cons (pv 0) (pa_cons (pe_lst (pa_cons pe_str (pa_cons pe_str pa_nil))) pa_nil))) (pa_cons pe_str (pa_cons (pe_op op_add pe_int (pe_call D.G hr2 (by rfl) D.m D.kp D.b .nil pass0 (pa_cons (pv 0) (pa_cons pe_int pa_nil)))) pa_nil)))))) pss_nil)
    (pss_one (ps_ret (pe_ifExp (pt_cmpR op_eq (pv 4) pe_int (nomark _)) (pe_call O.G hr (by rfl) O.m O.kp O.b .nil pass0 (pa_cons (pv 0) (pa_cons (pe_lst (pa_cons (pe_tup (pa_cons pe_str pa_nil)) (pa_cons (pe_tup (pa_cons pe_str pa_nil)) pa_nil))) pa_nil))) (pe_tup (pa_cons (pe_call O.G hr (by rfl) O.m O.kp O.b .nil pass0 (pa_cons (pv 0) (pa_cons (pe_lst (pa_cons pe_str (pa_cons pe_str pa_nil))) pa_nil))) (pa_cons (pv 2) (pa_cons (pe_call O.G hr (by rfl) O.m O.kp O.b .nil pass0 (pa_cons (pv 0) (pa_cons (pv 3) pa_nil))) pa_nil)))))))))))))), ?_⟩
    have out : ∀ {H1 : Hp} (y : Pc), y.ok → nice y → (c = false → y.1.cond = true ∨ y.1 = .zero) → (c = true → y.1.cond = false ∨ y.1 = .room) → HandAt H1 p q → Keep H H1 p → ∀ t, H1 t = none → Q (.ref t) (upd H1 t (.tup (.str y.1.word :: y.2))) := fun y ok nc hc hc2 hp1 k1 t ht => by
      have s1 := sameUpd (o := .tup (V.str y.1.word :: y.2)) (Same.refl _) ht
      exact k _ (some y) _ ⟨t, rfl, wo_at upd_same (hp1.ap ht), ok, nc⟩ (fun e z ez => by cases ez; exact hc e) (fun e z ez => by cases ez; exact hc2 e) (hp1.same s1) (fun b o e ne => s1 b o (k1 b o e ne))
    -- now and then another sort
    refine ⟨fun σ H1 => σ = [some (.ref p), some (.bl c), none, none, none] ∧ HandAt H1 p q ∧ Keep H H1 p, ?_, ?_⟩
    · refine ⟨_, rfl, p, q, 30, rfl, hp, by decide, by decide, fun z H1 z0 z1 hp1 k1 => ?_⟩
      refine ⟨rfl, _, rfl, ?_⟩
      refine ite2 (fun _ => ?_) (fun _ => ⟨rfl, hp1, k1⟩)
      refine ⟨_, rfl, (by show 2 ≤ sizeLine; decide), fun t1 h1 => ⟨(by show 2 ≤ sizeLine; decide), fun t2 h2 => ⟨(by show 3 ≤ sizeLine; decide), fun l hl => ?_⟩⟩⟩
      have s1 := sameUpd (o := .tup [V.str "room", V.str "calm"]) (Same.refl H1) h1
      have s2 := sameUpd (o := .tup [V.str "zero", V.str "use"]) s1 h2
      have s3 := sameUpd (o := .lst [V.ref t1, V.ref t2, V.non]) s2 hl
      have n12 : t1 ≠ t2 := ne_of_none upd_same h2
      refine ⟨p, q, l, _, rfl, hp1.same s3, upd_same, (hp1.same s2).ap hl, (by show 0 < 3; decide), (by show 3 ≤ 1000; decide), fun x H' hx hp' k' => ?_⟩
      have kH : Keep H H' p := fun b o e ne => k' b o (s3 b o (k1 b o e ne)) ne
      simp only [List.mem_cons, List.not_mem_nil, or_false] at hx
      rcases hx with rfl | rfl | rfl
      · have e1 : H' t1 = some (.tup [V.str "room", V.str "calm"]) := k' _ _ (by rw [upd_ne (ne_of_none (by rw [upd_ne n12]; exact upd_same) hl), upd_ne n12]; exact upd_same) (hp1.ap h1)
        exact k _ (some (.room, [.str "calm"])) _ ⟨t1, rfl, wo_at e1 (hp1.ap h1), (by decide +kernel : Sh.pw .r [V.str "calm"] = none), nice_k (by decide)⟩ (fun _ y ey => by cases ey; exact .inl rfl) (fun _ y ey => by cases ey; exact .inr rfl) hp' kH
      · have e2 : H' t2 = some (.tup [V.str "zero", V.str "use"]) := k' _ _ (by rw [upd_ne (ne_of_none upd_same hl)]; exact upd_same) ((hp1.same s1).ap h2)
        exact k _ (some (.zero, [.str "use"])) _ ⟨t2, rfl, wo_at e2 ((hp1.same s1).ap h2), (by decide +kernel : Sh.pw .k [V.str "use"] = none), nice_k (by decide)⟩ (fun _ y ey => by cases ey; exact .inr rfl) (fun _ y ey => by cases ey; exact .inl rfl) hp' kH
      · exact k _ none _ rfl (fun _ y ey => nomatch ey) (fun _ y ey => nomatch ey) hp' kH
    rintro σ H1 ⟨rfl, hp1, k1⟩
    -- the seat
    refine ⟨fun σ H2 => ∃ st : Str, st ∈ [Str.ofString "owner", Str.ofString "holder"] ∧ σ = [some (.ref p), some (.bl c), some (.str st), none, none] ∧ HandAt H2 p q ∧ Keep H H2 p, ?_, ?_⟩
    · show tCall spOne [] E0 (tCons (tVar 0) (tCons (tLst (tStrs ["owner", "holder"])) tNil)) _ _ _
      exact one_strs rfl hp1 (by decide) (by decide) fun st H2 hs hp2 k2 => ⟨st, hs, rfl, hp2, k1.trans k2⟩
    rintro σ H2 ⟨st, hst, rfl, hp2, k2⟩
    -- who may sit there
    refine ⟨fun σ H3 => ∃ (lw : Addr) (ot : Str), ot ∈ [Str.ofString "owner", Str.ofString "holder"] ∧ ¬ ot = st ∧ σ = [some (.ref p), some (.bl c), some (.str st), some (.ref lw), none] ∧ H3 lw = some (.lst [V.str "nobody", V.str "first", V.str "second", .str ot]) ∧ lw ≠ p ∧ HandAt H3 p q ∧ Keep H H3 p, ?_, ?_⟩
    · refine ⟨_, rfl, rfl, _, rfl, ?_⟩
      have fin : ∀ ot : Str, ot ∈ [Str.ofString "owner", Str.ofString "holder"] → ¬ ot = st → ∀ l, H2 l = none → HandAt (upd H2 l (.lst [V.str "nobody", V.str "first", V.str "second", .str ot])) p q ∧ Keep H (upd H2 l (.lst [V.str "nobody", V.str "first", V.str "second", .str ot])) p ∧ l ≠ p := fun ot _ _ l hl => by
        have s3 := sameUpd (o := .lst [V.str "nobody", V.str "first", V.str "second", .str ot]) (Same.refl H2) hl
        exact ⟨hp2.same s3, fun b o e ne => s3 b o (k2 b o e ne), hp2.ap hl⟩
      have oh : ¬ Str.ofString "holder" = Str.ofString "owner" := by decide +kernel
      refine ite2 (fun e => ?_) (fun e => ?_)
      · have e : st = Str.ofString "owner" := V.str.inj (of_decide_eq_true e)
        have nh : ¬ Str.ofString "holder" = st := by rw [e]; exact oh
        refine ⟨(by show 4 ≤ sizeLine; decide), fun l hl => ?_⟩
        obtain ⟨a1, a2, a3⟩ := fin "holder" (by simp) nh l hl
        exact ⟨l, "holder", by simp, nh, rfl, upd_same, a3, a1, a2⟩
      · have e : ¬ st = Str.ofString "owner" := fun z => e (by rw [z]; exact decide_eq_true rfl)
        have nh : ¬ Str.ofString "owner" = st := fun z => e z.symm
        refine ⟨(by show 4 ≤ sizeLine; decide), fun l hl => ?_⟩
        obtain ⟨a1, a2, a3⟩ := fin "owner" (by simp) nh l hl
        exact ⟨l, "owner", by simp, nh, rfl, upd_same, a3, a1, a2⟩
    rintro σ H3 ⟨lw, ot, hot, nost, rfl, hlw, lwp, hp3, k3⟩
    -- changes
    refine ⟨fun σ H4 => c = false ∧ σ = [some (.ref p), some (.bl c), some (.str st), some (.ref lw), none] ∧ H4 = H3, ?_, ?_⟩
    · refine ⟨_, rfl, _, rfl, ?_⟩
      cases c with
      | false => exact iteF ⟨rfl, rfl, rfl⟩
      | true =>
        refine iteT ⟨_, rfl, p, q, 6, rfl, hp3, by decide, by decide, fun z H4 z0 z1 hp4 k4 => ?_⟩
        have k04 := k3.trans k4
        refine ⟨_, rfl, _, _, rfl, rfl, _, rfl, ?_⟩
        have okput : ∀ sx : Str, sx ∈ [Str.ofString "owner", Str.ofString "holder", Str.ofString "heir"] → ∀ wx : Str, wx ∈ [Str.ofString "nobody", Str.ofString "first", Str.ofString "second"] → Sh.pw .s [V.str sx, V.str wx] = none := fun sx hs wx hw => by
          simp only [List.mem_cons, List.not_mem_nil, or_false] at hs hw
          rcases hs with rfl | rfl | rfl <;> rcases hw with rfl | rfl | rfl <;> decide +kernel
        refine ite2 (fun _ => ?_) (fun _ => ?_)
        · refine ⟨_, rfl, _, _, rfl, rfl, _, rfl, ?_⟩
          have rest : ∀ sx : Str, sx ∈ [Str.ofString "owner", Str.ofString "holder", Str.ofString "heir"] → ∀ wx : V, wx ∈ [V.str "nobody", V.str "first", V.str "second"] → ∀ H5, HandAt H5 p q → Keep H H5 p → 3 ≤ sizeLine ∧ ∀ t, H5 t = none → Q (.ref t) (upd H5 t (.tup [V.str "put", V.str sx, wx])) := fun sx hs wx hw H5 hp5 k5 => by
            refine ⟨by decide, fun t ht => ?_⟩
            simp only [List.mem_cons, List.not_mem_nil, or_false] at hw
            rcases hw with rfl | rfl | rfl
            · exact out (.put, [V.str sx, V.str "nobody"]) (okput sx hs "nobody" (by simp)) (nice_s (by decide +kernel) (by decide +kernel)) (fun e => nomatch e) (fun _ => .inl rfl) hp5 k5 t ht
            · exact out (.put, [V.str sx, V.str "first"]) (okput sx hs "first" (by simp)) (nice_s (by decide +kernel) (by decide +kernel)) (fun e => nomatch e) (fun _ => .inl rfl) hp5 k5 t ht
            · exact out (.put, [V.str sx, V.str "second"]) (okput sx hs "second" (by simp)) (nice_s (by decide +kernel) (by decide +kernel)) (fun e => nomatch e) (fun _ => .inl rfl) hp5 k5 t ht
          have sl : ∀ {Q' : VK}, (∀ x H5, x ∈ [V.str "nobody", V.str "first", V.str "second"] → HandAt H5 p q → Keep H H5 p → Q' x H5) → rSlL K (.ref lw) none (some 3) H4 (fun y H5 => spOne ([V.ref p, y] ++ []) H5 Q' E0) := fun kk => by
            refine ⟨lw, _, rfl, SqL.of (k4 _ _ hlw lwp), fun l hl => ?_⟩
            rw [show cutV [V.str "nobody", V.str "first", V.str "second", .str ot] none (some 3) = [V.str "nobody", V.str "first", V.str "second"] from cut_take [V.str "nobody", V.str "first", V.str "second", .str ot] 3 (by show 3 ≤ 4; decide)]
            have s5 := sameUpd (o := .lst [V.str "nobody", V.str "first", V.str "second"]) (Same.refl H4) hl
            exact ⟨p, q, l, _, rfl, hp4.same s5, upd_same, hp4.ap hl, (by show 0 < 3; decide), (by show 3 ≤ 1000; decide), fun x H5 hx hp5 k5 => kk x H5 hx hp5 fun b o e ne => k5 b o (s5 b o (k04 b o e ne)) ne⟩
          refine ite2 (fun _ => ?_) (fun _ => ?_)
          · refine ⟨_, rfl, _, rfl, _, rfl, _, rfl, sl fun x H5 hx hp5 k5 => rest st ?_ x hx H5 hp5 k5⟩
            simp only [List.mem_cons, List.not_mem_nil, or_false] at hst ⊢
            rcases hst with e | e
            · exact .inl e
            · exact .inr (.inl e)
          · exact ⟨_, rfl, _, rfl, _, rfl, sl fun x H5 hx hp5 k5 => rest "heir" (by simp) x hx H5 hp5 k5⟩
        · refine ⟨_, rfl, rfl, _, rfl, ?_⟩
          refine ite2 (fun _ => ?_) (fun _ => ?_)
          · exact ⟨(by show 2 ≤ sizeLine; decide), fun t ht => out (.to, [V.str "calm"]) (by decide +kernel : Sh.pw .r [V.str "calm"] = none) (nice_k (by decide)) (fun e => nomatch e) (fun _ => .inl rfl) hp4 k04 t ht⟩
          · show tCall spOne [] E0 (tCons (tVar 0) (tCons (tLst (tStrs ["zero", "run", "halt"])) tNil)) _ _ _
            refine one_strs rfl hp4 (by decide) (by decide) fun w1 H5 hw1 hp5 k5 => ?_
            show tCall spOne [] E0 (tCons (tVar 0) (tCons (tLst (tStrs ["use", "gate"])) tNil)) _ _ _
            refine one_strs rfl hp5 (by decide) (by decide) fun w2 H6 hw2 hp6 k6 => ?_
            refine ⟨(by show 2 ≤ sizeLine; decide), fun t ht => ?_⟩
            have okk : Sh.pw .k [V.str w2] = none := by
              simp only [List.mem_cons, List.not_mem_nil, or_false] at hw2
              rcases hw2 with rfl | rfl <;> decide +kernel
            have k06 := (k04.trans k5).trans k6
            simp only [List.mem_cons, List.not_mem_nil, or_false] at hw1
            rcases hw1 with rfl | rfl | rfl
            · exact out (.zero, [V.str w2]) okk (nice_k (by decide)) (fun e => nomatch e) (fun _ => .inl rfl) hp6 k06 t ht
            · exact out (.run, [V.str w2]) okk (nice_k (by decide)) (fun e => nomatch e) (fun _ => .inl rfl) hp6 k06 t ht
            · exact out (.halt, [V.str w2]) okk (nice_k (by decide)) (fun e => nomatch e) (fun _ => .inl rfl) hp6 k06 t ht
    rintro σ _ ⟨rfl, rfl, rfl⟩
    refine ⟨_, rfl, p, q, 4, rfl, hp3, by decide, by decide, fun z H4 z0 z1 hp4 k4 => ?_⟩
    have k04 := k3.trans k4
    refine ⟨_, rfl, rfl, _, rfl, ?_⟩
    refine ite2 (fun _ => ?_) (fun _ => ?_)
    · show tCall spOne [] E0 (tCons (tVar 0) (tCons (tLst (tStrs ["room", "notroom"])) tNil)) _ _ _
      refine one_strs rfl hp4 (by decide) (by decide) fun w1 H5 hw1 hp5 k5 => ?_
      show tCall spOne [] E0 (tCons (tVar 0) (tCons (tLst (tStrs ["calm", "suit"])) tNil)) _ _ _
      refine one_strs rfl hp5 (by decide) (by decide) fun w2 H6 hw2 hp6 k6 => ?_
      refine ⟨(by show 2 ≤ sizeLine; decide), fun t ht => ?_⟩
      have okr : Sh.pw .r [V.str w2] = none := by
        simp only [List.mem_cons, List.not_mem_nil, or_false] at hw2
        rcases hw2 with rfl | rfl <;> decide +kernel
      have k06 := (k04.trans k5).trans k6
      simp only [List.mem_cons, List.not_mem_nil, or_false] at hw1
      rcases hw1 with rfl | rfl
      · exact out (.room, [V.str w2]) okr (nice_k (by decide)) (fun _ => .inl rfl) (fun e => nomatch e) hp6 k06 t ht
      · exact out (.notroom, [V.str w2]) okr (nice_k (by decide)) (fun _ => .inl rfl) (fun e => nomatch e) hp6 k06 t ht
    refine ⟨_, rfl, rfl, _, rfl, ?_⟩
    refine ite2 (fun _ => ?_) (fun _ => ?_)
    · show tCall spOne [] E0 (tCons (tVar 0) (tCons (tLst (tStrs ["least", "below"])) tNil)) _ _ _
      refine one_strs rfl hp4 (by decide) (by decide) fun w1 H5 hw1 hp5 k5 => ?_
      refine ⟨_, rfl, p, q, 40, rfl, hp5, by decide, by decide, fun y H6 y0 y1 hp6 k6 => ?_⟩
      refine ⟨_, _, rfl, rfl, (by show 3 ≤ sizeLine; decide), fun t ht => ?_⟩
      have okc : Sh.pw .c [V.str "use", V.int (1 + y)] = none := by
        show numW (.str "use") (.int (1 + y)) = none
        unfold numW
        rw [show labV (V.str "use") = true by decide +kernel, if_pos rfl, show wholeV (.int (1 + y)) 1 40 = true by
          show (decide (1 ≤ 1 + y) && decide (1 + y ≤ 40)) = true
          rw [decide_eq_true (by omega), decide_eq_true (by omega)]
          rfl]
        rfl
      have k06 := (k04.trans k5).trans k6
      simp only [List.mem_cons, List.not_mem_nil, or_false] at hw1
      rcases hw1 with rfl | rfl
      · exact out (.least, [V.str "use", V.int (1 + y)]) okc (nice_k (by decide)) (fun _ => .inl rfl) (fun e => nomatch e) hp6 k06 t ht
      · exact out (.below, [V.str "use", V.int (1 + y)]) okc (nice_k (by decide)) (fun _ => .inl rfl) (fun e => nomatch e) hp6 k06 t ht
    refine ⟨_, rfl, rfl, _, rfl, ?_⟩
    refine ite2 (fun _ => ?_) (fun _ => ?_)
    · refine ⟨_, rfl, (by show 1 ≤ sizeLine; decide), fun t1 h1 => ⟨(by show 1 ≤ sizeLine; decide), fun t2 h2 => ⟨(by show 2 ≤ sizeLine; decide), fun l hl => ?_⟩⟩⟩
      have s1 := sameUpd (o := .tup [V.str "same"]) (Same.refl H4) h1
      have s2 := sameUpd (o := .tup [V.str "apart"]) s1 h2
      have s3 := sameUpd (o := .lst [V.ref t1, V.ref t2]) s2 hl
      have n12 : t1 ≠ t2 := ne_of_none upd_same h2
      refine ⟨p, q, l, _, rfl, hp4.same s3, upd_same, (hp4.same s2).ap hl, (by show 0 < 2; decide), (by show 2 ≤ 1000; decide), fun x H' hx hp' k' => ?_⟩
      have kH : Keep H H' p := fun b o e ne => k' b o (s3 b o (k04 b o e ne)) ne
      simp only [List.mem_cons, List.not_mem_nil, or_false] at hx
      rcases hx with rfl | rfl
      · have e1 : H' t1 = some (.tup [V.str "same"]) := k' _ _ (by rw [upd_ne (ne_of_none (by rw [upd_ne n12]; exact upd_same) hl), upd_ne n12]; exact upd_same) (hp4.ap h1)
        exact k _ (some (.same, [])) _ ⟨t1, rfl, wo_at e1 (hp4.ap h1), rfl, nice_k (by decide)⟩ (fun _ y ey => by cases ey; exact .inl rfl) (fun e => nomatch e) hp' kH
      · have e2 : H' t2 = some (.tup [V.str "apart"]) := k' _ _ (by rw [upd_ne (ne_of_none upd_same hl)]; exact upd_same) ((hp4.same s1).ap h2)
        exact k _ (some (.apart, [])) _ ⟨t2, rfl, wo_at e2 ((hp4.same s1).ap h2), rfl, nice_k (by decide)⟩ (fun _ y ey => by cases ey; exact .inl rfl) (fun e => nomatch e) hp' kH
    · show tCall spOne [] E0 (tCons (tVar 0) (tCons (tLst (tStrs ["is", "isnot"])) tNil)) _ _ _
      refine one_strs rfl hp4 (by decide) (by decide) fun w1 H5 hw1 hp5 k5 => ?_
      have k05 := k04.trans k5
      refine ⟨_, rfl, _, rfl, _, rfl, p, q, lw, _, rfl, hp5, k5 _ _ (k4 _ _ hlw lwp) lwp, lwp, (by show 0 < 4; decide), (by show 4 ≤ 1000; decide), fun x H6 hx hp6 k6 => ?_⟩
      refine ⟨(by show 3 ≤ sizeLine; decide), fun t ht => ?_⟩
      have oks : Sh.pw .s [V.str st, x] = none := by
        show seatW (.str st) x = none
        unfold seatW
        simp only [List.mem_cons, List.not_mem_nil, or_false] at hx hst hot
        rcases hst with rfl | rfl <;> rcases hx with rfl | rfl | rfl | rfl
        · decide +kernel
        · decide +kernel
        · decide +kernel
        · rcases hot with rfl | rfl
          · exact absurd rfl nost
          · decide +kernel
        · decide +kernel
        · decide +kernel
        · decide +kernel
        · rcases hot with rfl | rfl
          · decide +kernel
          · exact absurd rfl nost
      have nx : x ≠ .str "same" ∧ x ≠ .str "apart" := by
        simp only [List.mem_cons, List.not_mem_nil, or_false] at hx hot
        rcases hx with rfl | rfl | rfl | rfl
        · decide +kernel
        · decide +kernel
        · decide +kernel
        · rcases hot with rfl | rfl <;> decide +kernel
      have k06 := k05.trans k6
      simp only [List.mem_cons, List.not_mem_nil, or_false] at hw1
      rcases hw1 with rfl | rfl
      · exact out (.is_, [V.str st, x]) oks (nice_s nx.1 nx.2) (fun _ => .inl rfl) (fun e => nomatch e) hp6 k06 t ht
      · exact out (.isnot, [V.str st, x]) oks (nice_s nx.1 nx.2) (fun _ => .inl rfl) (fun e => nomatch e) hp6 k06 t ht
end
end Kx

set_option maxHeartbeats 8000000
namespace Kx
open PySem L2
/-- what a change of a row changes -/
def chT : Option Pc → Option (Str × Str)
  | none => none
  | some p => if p.1 = .to ∨ p.1 = .room then none else some (if p.1 = .put ∨ p.1 = .zero then p.1.word else "runs", argS p.2)
def chtD (o : Option Pc) : PyData := match chT o with
  | none => .str "room"
  | some c => chD c
def ChV (N : Hp) (v : V) (o : Option Pc) : Prop := match chT o with
  | none => v = .str "room"
  | some c => ∃ t, v = .ref t ∧ N t = some (.tup [.str c.1, .str c.2])
theorem ChV.keep {H H' : Hp} {v : V} {o : Option Pc} (h : ChV H v o) (s : Same H H') : ChV H' v o := by
  unfold ChV at h ⊢
  cases e : chT o with
  | none => rw [e] at h; exact h
  | some c => rw [e] at h; obtain ⟨t, e1, h1⟩ := h; exact ⟨t, e1, s _ _ h1⟩
theorem ChV.dp {K : PySem.W.Frag} {H : Hp} {v : V} {o : Option Pc} (h : ChV H v o) : Dp K H v (chtD o) := by
  unfold ChV at h
  unfold chtD
  cases e : chT o with
  | none => rw [e] at h; rw [h]; exact .str _
  | some c => rw [e] at h; obtain ⟨t, rfl, h1⟩ := h; exact .tup (SqT.of h1) (.cons (.str _) (.cons (.str _) .nil))
theorem eqv_cht (o o' : Option Pc) : PyData.eqv (chtD o) (chtD o') = decide (chT o = chT o') := by
  unfold chtD
  cases chT o with
  | none =>
    cases chT o' with
    | none => show PyData.eqv (.str "room") (.str "room") = _; rw [eqv_str]; simp
    | some c => simp [chD, PyData.eqv]
  | some c =>
    cases chT o' with
    | none => simp [chD, PyData.eqv]
    | some c' => show PyData.eqv (chD c) (chD c') = _; rw [eqv_ch]; simp
theorem x1 : ¬ Str.ofString "room" = Str.ofString "seat" := by decide +kernel
theorem x2 : ¬ Str.ofString "room" = Str.ofString "number" := by decide +kernel
theorem x3 : ¬ Str.ofString "room" = Str.ofString "running" := by decide +kernel
theorem x4 : ¬ Str.ofString "seat" = Str.ofString "number" := by decide +kernel
theorem x5 : ¬ Str.ofString "seat" = Str.ofString "running" := by decide +kernel
theorem x6 : ¬ Str.ofString "number" = Str.ofString "running" := by decide +kernel
theorem x7 : ¬ Str.ofString "put" = Str.ofString "zero" := by decide +kernel
theorem x8 : ¬ Str.ofString "put" = Str.ofString "runs" := by decide +kernel
theorem x9 : ¬ Str.ofString "zero" = Str.ofString "runs" := by decide +kernel
theorem chT_chg {p q : Pc} (hp : p.1.cond = false) (hq : q.1.cond = false) : chT (some p) = chT (some q) ↔ chg p = chg q := by
  obtain ⟨k, xs⟩ := p
  obtain ⟨j, ys⟩ := q
  have hp : k.cond = false := hp
  have hq : j.cond = false := hq
  cases k <;> first
    | cases hp; done
    | (cases j <;> first
        | cases hq; done
        | simp [chT, chg, Pk.word, x1, x2, x3, x4, x5, x6, x7, x8, x9, Ne.symm x1, Ne.symm x2, Ne.symm x3, Ne.symm x4, Ne.symm x5, Ne.symm x6, Ne.symm x7, Ne.symm x8, Ne.symm x9])
theorem argS_ok {xs : List V} {s : Sh} (h : s.pw xs = none) : PyData.strOk (argS xs) = true := by
  unfold argS
  split
  · rename_i z r
    obtain ⟨_, g⟩ := good_args h
    rcases g (.str z) (.head _) with ⟨u, e2, hu⟩ | ⟨i, e2, _⟩
    · cases e2
      exact lab_fine hu
    · cases e2
  · decide +kernel
theorem word_ok (k : Pk) : PyData.strOk k.word = true := by cases k <;> decide +kernel
theorem lay_cht {o : Option Pc} (h : ∀ p, o = some p → p.ok) : PyData.canLay0 (chtD o) = true ∧ PyData.depth (chtD o) ≤ 1 := by
  unfold chtD chT
  cases o with
  | none => exact ⟨by decide +kernel, Nat.zero_le _⟩
  | some p =>
    by_cases e : p.1 = .to ∨ p.1 = .room
    · simp only [if_pos e]
      exact ⟨by decide +kernel, Nat.zero_le _⟩
    · simp only [if_neg e]
      refine lay_ch ⟨?_, argS_ok (h p rfl)⟩
      show PyData.strOk (if p.1 = .put ∨ p.1 = .zero then p.1.word else Str.ofString "runs") = true
      split
      · exact word_ok _
      · decide +kernel
theorem shaped_cht {o : Option Pc} (h : ∀ p, o = some p → p.ok) : SeqAt.shaped (chtD o) = true := by
  obtain ⟨a, b⟩ := lay_cht h
  unfold SeqAt.shaped
  rw [Bool.and_eq_true]
  exact ⟨a, decide_eq_true (by omega)⟩
theorem shaped_chts {os : List (Option Pc)} (h : ∀ o ∈ os, ∀ p, o = some p → p.ok) : SeqAt.shaped (.list (os.map chtD)) = true := by
  obtain ⟨a, b⟩ := lay_map (f := chtD) (n := 1) (xs := os) fun o m => lay_cht (h o m)
  unfold SeqAt.shaped
  rw [Bool.and_eq_true]
  exact ⟨a, decide_eq_true (by show PyData.depthAll (os.map chtD) + 1 ≤ 64; omega)⟩
theorem in_tr (k : Pk) : inV (.str k.word) [V.str "to", V.str "room"] = decide (k = .to ∨ k = .room) := by cases k <;> decide +kernel
theorem in_pz (k : Pk) : inV (.str k.word) [V.str "put", V.str "zero"] = decide (k = .put ∨ k = .zero) := by cases k <;> decide +kernel
def spChTh : Sp := fun vs H Q _ => ∃ (x : V) (o : Option Pc), vs = [x] ∧ RowV H x o ∧ (∀ p, o = some p → p.1.cond = false ∨ p.1 = .room) ∧ ∀ v H', Same H H' → ChV (nw H H') v o → Q v H'
section
variable {P : Program} {w : World} {K : PySem.W.Frag} {mg : Str → Option Value} {base : Heap}
theorem scChTh : FnScope ["_law_row_here"] ["_law_row_here"] (defScope sLChangedThing) := ⟨rfl, rfl, rfl, by decide +kernel, rfl, by decide +kernel, by decide +kernel⟩
theorem ok_chth {f : Addr} {fd : FuncData} (F : Fun K "_law_changed_thing" "_law_changed_thing" sLChangedThing f fd) (m : mg "_law_changed_thing" = some (.ref f)) : HasF P w K mg base "_law_changed_thing" 1 ["_law_row_here"] spChTh := by
  refine ⟨f, fd, ?_, m, F.kp, F.binds fun _ _ _ _ _ _ us hl => by obtain ⟨_, rfl⟩ := us1 hl; exact rfl⟩
  refine F.ok scChTh (fun vs H Q E h => ?_) (fun cdv A outer s H vs Q E hr h => ?_)
  · obtain ⟨a, b, rfl, _⟩ := h
    rfl
  · obtain ⟨x, o, rfl, hx, ho, k⟩ := h
    refine ⟨_, (pss_cons (ps_if (PW.pt (pw_or (pt_cmpR op_isN (pv 0) pe_non (nomark _)) (pw_or1 (pt_cmpR op_in_seq (pe_ix ix_tup (pv 0) pe_int (fun _ _ => rfl)) (pe_tup (pa_cons pe_str (pa_cons pe_str pa_nil))) (by rfl))))) (pss_one (ps_ret pe_str)) pss_nil)
    (pss_one (ps_ret (pe_tup (pa_cons (pe_ifExp (pt_cmpR op_in_seq (pe_ix ix_tup (pv 0) pe_int (fun _ _ => rfl)) (pe_tup (pa_cons pe_str (pa_cons pe_str pa_nil))) (by rfl)) (pe_ix ix_tup (pv 0) pe_int (fun _ _ => rfl)) pe_str) (pa_cons (pe_ix ix_tup (pv 0) pe_int (fun _ _ => rfl)) pa_nil)))))), ?_⟩
    cases o with
    | none =>
      have e : x = .non := hx
      subst e
      exact ⟨_, rfl, rfl, _, rfl, iteT (k _ _ (Same.refl _) rfl)⟩
    | some p =>
      obtain ⟨t, rfl, hr', ok, _⟩ := hx
      obtain ⟨kd, args⟩ := p
      have hc := ho _ rfl
      have row : ∀ {H'}, Same H H' → SqT K H' t (.str kd.word :: args) := fun s => SqT.of (s _ _ hr')
      refine ⟨_, rfl, rfl, _, rfl, iteF ⟨_, rfl, t, _, _, _, rfl, rfl, row (Same.refl _), atI0 _ _, (by show 2 ≤ sizeLine; decide), fun t1 h1 => ?_⟩⟩
      have s1 := sameUpd (o := .tup [V.str "to", V.str "room"]) (Same.refl H) h1
      refine ⟨t1, _, rfl, .inr (SqT.of upd_same), rfl, by decide, _, rfl, ?_⟩
      rw [if_neg Bool.false_ne_true, in_tr]
      refine ite2 (fun e => ?_) (fun n1 => ?_)
      · have e := of_decide_eq_true e
        refine k _ _ s1 ?_
        unfold ChV chT
        simp only [if_pos e]
      · have n1 : ¬ (kd = .to ∨ kd = .room) := fun e => n1 (decide_eq_true e)
        refine ⟨_, rfl, t, _, _, _, rfl, rfl, row s1, atI0 _ _, (by show 2 ≤ sizeLine; decide), fun t2 h2 => ?_⟩
        have s2 := sameUpd (o := .tup [V.str "put", V.str "zero"]) s1 h2
        refine ⟨t2, _, rfl, .inr (SqT.of upd_same), rfl, by decide, _, rfl, ?_⟩
        rw [if_neg Bool.false_ne_true, in_pz]
        have nn : kd.sh ≠ .n := by
          intro e
          rcases hc with hc | hc
          · have hc : kd.cond = false := hc
            cases kd <;> first | (cases hc; done) | (cases e; done)
          · have hc : kd = .room := hc
            exact n1 (.inr hc)
        obtain ⟨z, xs, rfl, hz⟩ := lab_arg (k := kd) ok nn
        have fin : ∀ (wd : Str) (H3 : Hp), Same H H3 → chT (some (kd, V.str z :: xs)) = some (wd, z) → 2 ≤ sizeLine ∧ ∀ t3, H3 t3 = none → Q (.ref t3) (upd H3 t3 (.tup [V.str wd, V.str z])) := fun wd H3 s3 e => by
          refine ⟨by decide, fun t3 h3 => k _ _ (s3.trans (sameUpd (Same.refl _) h3)) ?_⟩
          unfold ChV
          rw [e]
          exact ⟨t3, rfl, nw_at (s3.free h3) upd_same⟩
        refine ite2 (fun e => ?_) (fun n2 => ?_)
        · have e := of_decide_eq_true e
          exact ⟨_, rfl, t, _, _, _, rfl, rfl, row s2, atI0 _ _, _, rfl, t, _, _, _, rfl, rfl, row s2, atI1 _ _ _, fin _ _ s2 (by show (if _ then _ else _) = _; rw [if_neg n1, if_pos e]; rfl)⟩
        · have n2 : ¬ (kd = .put ∨ kd = .zero) := fun e => n2 (decide_eq_true e)
          exact ⟨_, rfl, t, _, _, _, rfl, rfl, row s2, atI1 _ _ _, fin _ _ s2 (by show (if _ then _ else _) = _; rw [if_neg n1, if_neg n2]; rfl)⟩
end
end Kx

set_option maxHeartbeats 8000000
namespace Kx
open PySem L2
/-- the parts of a clause: a kind, rows, rows -/
structure PartsA (N : Hp) (a : Addr) (kv : V) (os dos : List (Option Pc)) : Prop where
  ob : ∃ n cl dl xs ys, N a = some (.lst [kv, .ref cl, .ref dl]) ∧ Thing N kv n ∧ N cl = some (.lst xs) ∧ Paired (RowV N) xs os ∧ N dl = some (.lst ys) ∧ Paired (RowV N) ys dos
  l1 : os.length ≤ 7
  l2 : dos.length ≤ 9
theorem PartsA.keep {H H' : Hp} {a : Addr} {kv : V} {os dos : List (Option Pc)} (h : PartsA H a kv os dos) (s : Same H H') : PartsA H' a kv os dos := by
  obtain ⟨⟨n, cl, dl, xs, ys, h1, h2, h3, h4, h5, h6⟩, l1, l2⟩ := h
  exact ⟨⟨n, cl, dl, xs, ys, s _ _ h1, h2.keep s, s _ _ h3, pr_imp h4 fun _ _ q => q.keep s, s _ _ h5, pr_imp h6 fun _ _ q => q.keep s⟩, l1, l2⟩
def WordIs (N : Hp) (v : V) (due : Option (Nat × Str)) : Prop := match due with
  | none => v = .non
  | some (i, w) => ∃ t, v = .ref t ∧ N t = some (.tup [.int i, .str w])
def spCWord : Sp := fun vs H Q _ => ∃ (a : Addr) (kv : V) (os dos : List (Option Pc)), vs = [.ref a] ∧ PartsA H a kv os dos ∧ ∀ v H', Same H H' → WordIs (nw H H') v (clDue kv (some os) (some dos)) → Q v H'
/-- rows that are there -/
theorem rows_pcs {N : Hp} {xs : List V} {ps : List Pc} (h : Paired (RowV N) xs (ps.map some)) : Paired (fun x p => ∃ t, x = .ref t ∧ RowA N t p ∧ p.ok ∧ nice p) xs ps := by
  induction ps generalizing xs with
  | nil => cases h; exact .nil
  | cons p ps ih =>
    cases h with
    | cons h t => exact .cons h (ih t)
theorem rows_ok {N : Hp} {xs : List V} {ps : List Pc} (h : Paired (RowV N) xs (ps.map some)) : ∀ p ∈ ps, p.ok := fun p hp => by
  obtain ⟨i, hi⟩ := List.mem_iff_getElem?.mp hp
  obtain ⟨x, _, _, _, _, ok, _⟩ := Paired.at2 (rows_pcs h) hi
  exact ok
theorem rows_dp {K : PySem.W.Frag} {N : Hp} {xs : List V} {ps : List Pc} (h : Paired (RowV N) xs (ps.map some)) : DpAll K N xs (ps.map dRow) := dpAll_of (fun _ _ ⟨t, e, r, ok, _⟩ => by rw [e]; exact r.dp ok) (rows_pcs h)
theorem shaped_rows {ps : List Pc} (h : ∀ p ∈ ps, p.ok) : SeqAt.shaped (.list (ps.map dRow)) = true := by
  obtain ⟨a, b⟩ := lay_map (f := dRow) (n := 1) (xs := ps) fun p m => lay_row (h p m)
  unfold SeqAt.shaped
  rw [Bool.and_eq_true]
  exact ⟨a, decide_eq_true (by show PyData.depthAll (ps.map dRow) + 1 ≤ 64; omega)⟩
theorem any_row {p : Pc} (hp : p.ok) : ∀ {ps : List Pc}, (∀ q ∈ ps, q.ok) → ((ps.map dRow).any fun z => PyData.eqv z (dRow p)) = decide (p ∈ ps)
  | [], _ => by simp
  | q :: ps, h => by
    rw [List.map_cons, List.any_cons, eqv_row (h q (.head _)) hp, any_row hp fun z m => h z (.tail _ m)]
    by_cases e : q = p
    · simp [e]
    · simp [e, Ne.symm e]
theorem any_cht {p : Pc} (hp : p.1.cond = false) : ∀ {ps : List Pc}, (∀ q ∈ ps, q.1.cond = false) → (((ps.map some).map chtD).any fun z => PyData.eqv z (chtD (some p))) = decide (chg p ∈ ps.map chg)
  | [], _ => by simp
  | q :: ps, h => by
    rw [List.map_cons, List.map_cons, List.map_cons, List.any_cons, eqv_cht, any_cht hp fun z m => h z (.tail _ m)]
    have hq := h q (.head _)
    by_cases e : chg q = chg p
    · rw [decide_eq_true ((chT_chg hq hp).mpr e)]
      simp [e]
    · rw [decide_eq_false fun z => e ((chT_chg hq hp).mp z)]
      simp [Ne.symm e]
section
variable {P : Program} {w : World} {K : PySem.W.Frag} {mg : Str → Option Value} {base : Heap}
abbrev nCW : List Str := ["_law_parts", "_law_condition_words", "_law_k", "_law_row_here", "_law_one_here"]
theorem scCW : FnScope nCW ["_law_parts"] (defScope sLClauseWord) := ⟨rfl, rfl, rfl, by decide +kernel, rfl, by decide +kernel, by decide +kernel⟩
theorem ok_cword {f : Addr} {fd : FuncData} (F : Fun K "_law_clause_word" "_law_clause_word" sLClauseWord f fd) (m : mg "_law_clause_word" = some (.ref f)) (T : Bl mg) (L : HasF P w K mg base "_law_label" 1 ["_law_thing_here"] spLLab) (Ct : HasF P w K mg base "_law_changed_thing" 1 ["_law_row_here"] spChTh) : HasF P w K mg base "_law_clause_word" 2 ["_law_parts"] spCWord := by
  refine ⟨f, fd, ?_, m, F.kp, F.binds fun _ _ _ _ _ _ us hl => by obtain ⟨_, rfl⟩ := us1 hl; exact rfl⟩
  obtain ⟨f1, fd1, L⟩ := L; obtain ⟨f2, fd2, Ct⟩ := Ct
  refine F.ok scCW (fun vs H Q E h => ?_) (fun cdv A outer s H vs Q E hr h => ?_)
  · obtain ⟨a, b, c, d, rfl, _⟩ := h
    rfl
  · obtain ⟨a, kv, os, dos, rfl, hp, k⟩ := h
    have hu := hu65 hr
    refine ⟨_, (C8.pss_cut (ps_set (i := 1) scCW.nd rfl (Or.inl rfl) (pe_tup (pa_cons pe_str (pa_cons pe_str (pa_cons pe_str (pa_cons pe_str (pa_cons pe_str (pa_cons pe_str (pa_cons pe_str (pa_cons pe_str pa_nil))))))))))
    (C8.pss_cut (ps_if (pt_not (pt_val (pe_call L.G hr (by rfl) L.m L.kp L.b .nil pass0 (pa_cons (pe_ix ix_list (pv 0) pe_int (fun _ _ => rfl)) pa_nil)))) (pss_one (ps_ret (pe_tup (pa_cons pe_int (pa_cons pe_str pa_nil))))) pss_nil)
    (C8.pss_cut (ps_if (pt_cmpR op_gt (pe_callB call_len_seq (by rfl) T.len PySem.boot_len (pa_cons (pe_ix ix_list (pv 0) pe_int (fun _ _ => rfl)) pa_nil)) pe_int (nomark _)) (pss_one (ps_ret (pe_tup (pa_cons pe_int (pa_cons pe_str pa_nil))))) pss_nil)
    (C8.pss_cut (ps_for PassesOwn.never rfl (pi_enum (by rfl) T.enumerate (pa_cons (pe_ix ix_list (pv 0) pe_int (fun _ _ => rfl)) pa_nil)) (pg_tup rfl (pgs_cons (pg_name (i := 2) scCW.nd rfl (.inl rfl)) (pgs_cons (pg_name (i := 3) scCW.nd rfl (.inl rfl)) pgs_nil)))
        (pss_cons (ps_if (PW.pt (pw_or (pt_cmpR op_isN (pv 3) pe_non (nomark _)) (pw_or1 (pt_cmpR op_notIn_seq (pe_ix ix_tup (pv 3) pe_int (fun _ _ => rfl)) (pv 1) (by rfl))))) (pss_one (ps_ret (pe_tup (pa_cons (pv 2) (pa_cons pe_str pa_nil))))) pss_nil)
    (pss_one (ps_if (pt_cmpR (op_inD hu) (pv 3) (pe_slice sl_list (pe_ix ix_list (pv 0) pe_int (fun _ _ => rfl)) po_none (po_some (pv 2))) (by rfl)) (pss_one (ps_ret (pe_tup (pa_cons (pv 2) (pa_cons pe_str pa_nil))))) pss_nil))))
    (C8.pss_cut (ps_if (pt_cmpR op_gt (pe_callB call_len_seq (by rfl) T.len PySem.boot_len (pa_cons (pe_ix ix_list (pv 0) pe_int (fun _ _ => rfl)) pa_nil)) pe_int (nomark _)) (pss_one (ps_ret (pe_tup (pa_cons pe_int (pa_cons pe_str pa_nil))))) pss_nil)
    (pss_cons (ps_for PassesOwn.never rfl (pi_enum (by rfl) T.enumerate (pa_cons (pe_ix ix_list (pv 0) pe_int (fun _ _ => rfl)) pa_nil)) (pg_tup rfl (pgs_cons (pg_name (i := 2) scCW.nd rfl (.inl rfl)) (pgs_cons (pg_name (i := 3) scCW.nd rfl (.inl rfl)) pgs_nil)))
        (pss_cons (ps_if (PW.pt (pw_or (pt_cmpR op_isN (pv 3) pe_non (nomark _)) (pw_or1 (pt_cmpR op_in_seq (pe_ix ix_tup (pv 3) pe_int (fun _ _ => rfl)) (pv 1) (by rfl))))) (pss_one (ps_ret (pe_tup (pa_cons (pv 2) (pa_cons pe_str pa_nil))))) pss_nil)
    (pss_one (ps_if (pt_cmpR (op_inD hu) (pe_call Ct.G hr (by rfl) Ct.m Ct.kp Ct.b .nil pass0 (pa_cons (pv 3) pa_nil)) (pe_lc (own := [("_law_one_here", 4)]) (g := gName 4) (tt := tYes) (by rfl) scCW.nd (pi_seq (pe_slice sl_list (pe_ix ix_list (pv 0) pe_int (fun _ _ => rfl)) po_none (po_some (pv 2)))) (blkOk_by (own := [("_law_one_here", 4)]) (N := nCW) (sc := defScope sLClauseWord) (by decide +kernel))
              (fun _ _ _ _ _ => pg_name (i := 4) scCW.nd rfl (Or.inl rfl)) (fun _ _ _ _ _ => pts_nil) (fun _ _ _ _ _ => (pe_call Ct.G hr (by rfl) Ct.m Ct.kp Ct.b .nil pass0 (pa_cons (pv 4) pa_nil)))) (by rfl)) (pss_one (ps_ret (pe_tup (pa_cons (pv 2) (pa_cons pe_str pa_nil))))) pss_nil))))
    (pss_one (ps_ret pe_non)))))))), ?_⟩
    obtain ⟨n, cl, dl, xs, ys, ha, tk, hcl, px, hdl, py⟩ := hp.ob
    have lx := Paired.length px
    have ly := Paired.length py
    have ix0 : ∀ {H' : Hp} {v : V} {i : Int} {Q' : VK}, Same H H' → atI [kv, V.ref cl, V.ref dl] i = some v → Q' v H' → rIxL K (.ref a) (.int i) H' Q' := fun s e q => ⟨a, _, _, _, rfl, rfl, SqL.of (s _ _ ha), e, q⟩
    have out : ∀ (i : Nat) (wd : Str) (H1 : Hp), Same H H1 → clDue kv (some os) (some dos) = some (i, wd) → 2 ≤ sizeLine ∧ ∀ t, H1 t = none → Q (.ref t) (upd H1 t (.tup [.int i, .str wd])) := fun i wd H1 s e => by
      refine ⟨by decide, fun t ht => k _ _ (s.trans (sameUpd (Same.refl _) ht)) ?_⟩
      rw [e]
      exact ⟨t, rfl, nw_at (s.free ht) upd_same⟩
    -- the words
    refine ⟨fun σ H1 => ∃ cw, σ = [some (.ref a), some (.ref cw), none, none, none] ∧ Same H H1 ∧ H1 cw = some (.tup cWords), ?_, ?_⟩
    · exact ⟨(by show 8 ≤ sizeLine; decide), fun t ht => ⟨t, rfl, sameUpd (Same.refl _) ht, upd_same⟩⟩
    rintro σ H1 ⟨cw, rfl, s1, hcw⟩
    -- the kind
    refine ⟨fun σ H2 => labV kv = true ∧ σ = [some (.ref a), some (.ref cw), none, none, none] ∧ Same H1 H2, ?_, ?_⟩
    · refine ⟨_, rfl, ix0 s1 (atI0 _ _) ⟨kv, n, rfl, (tk.keep s1).kd, tk.fine, fun H2 s2 => ⟨_, rfl, ?_⟩⟩⟩
      cases e : labV kv with
      | false => exact iteT (out 0 "kind" H2 (s1.trans s2) (by unfold clDue; rw [e]; rfl))
      | true => exact iteF ⟨rfl, rfl, s2⟩
    rintro σ H2 ⟨el, rfl, s2⟩
    have s02 := s1.trans s2
    have due : clDue kv (some os) (some dos) = match condDue (some os) with | some x => some x | none => chgDue (some dos) := by unfold clDue; rw [el]; rfl
    -- how many conditions
    refine ⟨fun σ H3 => os.length ≤ 6 ∧ σ = [some (.ref a), some (.ref cw), none, none, none] ∧ H3 = H2, ?_, ?_⟩
    · refine ⟨_, rfl, ix0 s02 (atI1 _ _ _) ⟨cl, xs, rfl, .inl (SqL.of (s02 _ _ hcl)), _, _, rfl, rfl, _, rfl, ?_⟩⟩
      refine ite2 (fun h1 => ?_) (fun h1 => ?_)
      · have h1 : (6 : Int) < (xs.length : Nat) := of_decide_eq_true h1
        exact out 0 "conditions" H2 s02 (by rw [due, show condDue (some os) = some (0, Str.ofString "conditions") from if_neg (by omega)])
      · have h1 : ¬ (6 : Int) < (xs.length : Nat) := fun e => h1 (decide_eq_true e)
        exact ⟨by omega, rfl, rfl⟩
    rintro σ _ ⟨l6, rfl, rfl⟩
    have due1 : condDue (some os) = condScan [] 0 os := if_pos l6
    -- the conditions
    refine ⟨fun σ H3 => ∃ v2 v3, condScan [] 0 os = none ∧ σ = [some (.ref a), some (.ref cw), v2, v3, none] ∧ Same H H3 ∧ H3 cw = some (.tup cWords), ?_, ?_⟩
    · refine ⟨_, rfl, ix0 s02 (atI1 _ _ _) ⟨cl, xs, rfl, SqL.of (s02 _ _ hcl), for_enum (K := K) (a := cl) (xs := xs) (fun i σ H3 => ∃ (v2 v3 : Option V) (ps : List Pc), σ = [some (.ref a), some (.ref cw), v2, v3, none] ∧ Same H H3 ∧ H3 cw = some (.tup cWords) ∧ os.take i = ps.map some ∧ ps.length = i ∧ condScan [] 0 os = condScan ps i (os.drop i))
        ⟨none, none, [], rfl, s02, s2 _ _ hcw, rfl, rfl, rfl⟩ (fun i σ H3 ⟨_, _, _, _, s, _⟩ => SqL.of (s _ _ hcl)) ?_ ?_⟩⟩
      · rintro i x σ H3 t hi ⟨v2, v3, ps, rfl, s3, hcw3, tk', pl, sc⟩ ht
        have lt : i < xs.length := (List.getElem?_eq_some_iff.mp hi).1
        obtain ⟨o, ho, hx⟩ := Paired.at px hi
        have s4 : Same H (upd H3 t (.tup [.int (i : Nat), x])) := sameUpd s3 ht
        have hcw4 := (sameUpd (o := .tup [.int (i : Nat), x]) (Same.refl H3) ht) _ _ hcw3
        rw [condScan_step ho] at sc
        refine ⟨t, _, rfl, SqT.of upd_same, rfl, _, _, rfl, _, _, rfl, rfl, ?_⟩
        cases o with
        | none =>
          have e : x = .non := hx
          subst e
          exact ⟨_, rfl, rfl, _, rfl, iteT ⟨_, rfl, out i "condition" _ s4 (by rw [due, due1, sc])⟩⟩
        | some p =>
          obtain ⟨tp, rfl, hrow, ok, _⟩ := hx
          refine ⟨_, rfl, rfl, _, rfl, iteF ⟨_, rfl, tp, _, _, _, rfl, rfl, SqT.of (s4 _ _ hrow), atI0 _ _, _, rfl, cw, _, rfl, .inr (SqT.of hcw4), rfl, by decide, _, rfl, ?_⟩⟩
          rw [if_pos rfl, show inV (.str p.1.word) cWords = p.1.cond from in_words p.1]
          cases hc : p.1.cond with
          | false =>
            have sc : condScan [] 0 os = some (i, Str.ofString "condition") := sc.trans (by show (if p.1.cond = true then _ else _) = _; rw [hc]; rfl)
            exact iteT ⟨_, rfl, out i "condition" _ s4 (by rw [due, due1, sc])⟩
          | true =>
            have sc : condScan [] 0 os = if decide (p ∈ ps) then some (i, Str.ofString "double") else condScan (ps ++ [p]) (i + 1) (os.drop (i + 1)) := sc.trans (by show (if p.1.cond = true then _ else _) = _; rw [hc]; rfl)
            refine iteF ⟨_, rfl, _, rfl, a, _, _, _, rfl, rfl, SqL.of (s4 _ _ ha), atI1 _ _ _, ?_⟩
            refine ⟨_, rfl, _, rfl, cl, xs, rfl, SqL.of (s4 _ _ hcl), fun z hz => ?_⟩
            rw [cut_take xs i (by omega)]
            have s5 := sameUpd (o := .lst (xs.take i)) s4 hz
            have pr : Paired (RowV H) (xs.take i) (ps.map some) := by rw [← tk']; exact take_paired px i
            have pr5 := pr_imp pr fun _ _ q => RowV.keep q s5
            refine ⟨dRow p, ps.map dRow, RowA.dp (s5 _ _ hrow) ok, .lst (SqL.of upd_same) (rows_dp pr5), shaped_row ok, shaped_rows (rows_ok pr), _, rfl, ?_⟩
            rw [any_row ok (rows_ok pr)]
            refine ite2 (fun hd => ?_) (fun hd => ?_)
            · rw [if_pos hd] at sc
              exact ⟨_, rfl, out i "double" _ s5 (by rw [due, due1, sc])⟩
            · rw [if_neg hd] at sc
              exact ⟨_, _, ps ++ [p], rfl, s5, (sameUpd (Same.refl _) hz) _ _ hcw4, by rw [List.take_add_one, ho, tk', List.map_append]; rfl, by simp [pl], sc⟩
      · rintro σ H3 ⟨v2, v3, ps, rfl, s3, hcw3, tk', pl, sc⟩
        rw [show condScan ps xs.length (os.drop xs.length) = none by rw [List.drop_of_length_le (by omega)]; rfl] at sc
        exact ⟨v2, v3, sc, rfl, s3, hcw3⟩
    rintro σ H3 ⟨v2, v3, sc0, rfl, s3, hcw3⟩
    have due2 : clDue kv (some os) (some dos) = chgDue (some dos) := by rw [due, due1, sc0]
    -- how many changes
    refine ⟨fun σ H4 => dos.length ≤ 8 ∧ σ = [some (.ref a), some (.ref cw), v2, v3, none] ∧ H4 = H3, ?_, ?_⟩
    · refine ⟨_, rfl, ix0 s3 (atI2 _ _ _ _) ⟨dl, ys, rfl, .inl (SqL.of (s3 _ _ hdl)), _, _, rfl, rfl, _, rfl, ?_⟩⟩
      refine ite2 (fun h1 => ?_) (fun h1 => ?_)
      · have h1 : (8 : Int) < (ys.length : Nat) := of_decide_eq_true h1
        exact out 0 "changes" H3 s3 (by rw [due2]; exact if_neg (by omega))
      · have h1 : ¬ (8 : Int) < (ys.length : Nat) := fun e => h1 (decide_eq_true e)
        exact ⟨by omega, rfl, rfl⟩
    rintro σ _ ⟨l8, rfl, rfl⟩
    have due3 : clDue kv (some os) (some dos) = chgScan [] 0 dos := due2.trans (if_pos l8)
    refine ⟨_, rfl, ix0 s3 (atI2 _ _ _ _) ⟨dl, ys, rfl, SqL.of (s3 _ _ hdl), for_enum (K := K) (a := dl) (xs := ys) (fun i σ H4 => ∃ (v2 v3 : Option V) (ps : List Pc), σ = [some (.ref a), some (.ref cw), v2, v3, none] ∧ Same H H4 ∧ H4 cw = some (.tup cWords) ∧ dos.take i = ps.map some ∧ ps.length = i ∧ (∀ p ∈ ps, p.1.cond = false) ∧ chgScan [] 0 dos = chgScan (ps.map chg) i (dos.drop i))
      ⟨v2, v3, [], rfl, s3, hcw3, rfl, rfl, (fun p h => nomatch h), rfl⟩ (fun i σ H4 ⟨_, _, _, _, s, _⟩ => SqL.of (s _ _ hdl)) ?_ ?_⟩⟩
    · rintro i x σ H4 t hi ⟨v2, v3, ps, rfl, s4, hcw4, tk', pl, pc, sc⟩ ht
      have lt : i < ys.length := (List.getElem?_eq_some_iff.mp hi).1
      obtain ⟨o, ho, hx⟩ := Paired.at py hi
      have s5 : Same H (upd H4 t (.tup [.int (i : Nat), x])) := sameUpd s4 ht
      have hcw5 := (sameUpd (o := .tup [.int (i : Nat), x]) (Same.refl H4) ht) _ _ hcw4
      rw [chgScan_step ho] at sc
      refine ⟨t, _, rfl, SqT.of upd_same, rfl, _, _, rfl, _, _, rfl, rfl, ?_⟩
      cases o with
      | none =>
        have e : x = .non := hx
        subst e
        exact ⟨_, rfl, rfl, _, rfl, iteT ⟨_, rfl, out i "change" _ s5 (by rw [due3, sc])⟩⟩
      | some p =>
        have hx0 := hx
        obtain ⟨tp, rfl, hrow, ok, _⟩ := hx
        refine ⟨_, rfl, rfl, _, rfl, iteF ⟨_, rfl, tp, _, _, _, rfl, rfl, SqT.of (s5 _ _ hrow), atI0 _ _, _, rfl, cw, _, rfl, .inr (SqT.of hcw5), rfl, by decide, _, rfl, ?_⟩⟩
        rw [if_neg Bool.false_ne_true, show inV (.str p.1.word) cWords = p.1.cond from in_words p.1]
        cases hc : p.1.cond with
        | true =>
          have sc : chgScan [] 0 dos = some (i, Str.ofString "change") := sc.trans (by show (if p.1.cond = true then _ else _) = _; rw [hc]; rfl)
          exact iteT ⟨_, rfl, out i "change" _ s5 (by rw [due3, sc])⟩
        | false =>
          have sc : chgScan [] 0 dos = if decide (chg p ∈ ps.map chg) then some (i, Str.ofString "twice") else chgScan (ps.map chg ++ [chg p]) (i + 1) (dos.drop (i + 1)) := sc.trans (by show (if p.1.cond = true then _ else _) = _; rw [hc]; rfl)
          refine iteF ⟨_, rfl, .ref tp, some p, rfl, RowV.keep (o := some p) hx0 s5, (fun y e => by cases e; exact .inl hc), fun v H6 s6 hv => ?_⟩
          have s56 := s5.trans s6
          refine ⟨_, rfl, a, _, _, _, rfl, rfl, SqL.of (s56 _ _ ha), atI2 _ _ _ _, ?_⟩
          refine ⟨_, rfl, _, rfl, dl, ys, rfl, SqL.of (s56 _ _ hdl), fun z hz => ?_⟩
          rw [cut_take ys i (by omega)]
          have sz := sameUpd (o := .lst (ys.take i)) (Same.refl H6) hz
          have s7 := s56.trans sz
          have pr : Paired (RowV H) (ys.take i) (ps.map some) := by rw [← tk']; exact take_paired py i
          have lp : (ys.take i).length = ps.length := by rw [Paired.length pr, List.length_map]
          refine ⟨z, rfl, lc_pure (g := gName 4) (fun j y H' => ∀ p', ps[j]? = some p' → ChV H' y (some p')) (fun j y H' H'' g s p' e => (g p' e).keep s) (IsSeq.lst upd_same) (Same.refl _) (by omega) ?_ ?_ (fun x σ H Q Q' q z => q _ _ z)⟩
          · rintro D' j y H8 kk hj hD s8 ⟨acc, hacc⟩ hk
            obtain ⟨p', hp', hy⟩ := Paired.at (rows_pcs pr) hj
            obtain ⟨tq, rfl, hrq, okq, nq⟩ := hy
            have s08 := s7.trans s8
            refine ⟨rfl, _, rfl, .ref tq, some p', rfl, ⟨tq, rfl, s08 _ _ hrq, okq, nq⟩, (fun y e => by cases e; exact .inl (pc p' (List.mem_iff_getElem?.mpr ⟨j, hp'⟩))), fun v' H9 s9 hv' => hk v' H9 s9 fun p'' e => ?_⟩
            rw [hp'] at e
            cases e
            exact hv'.keep fun b u e => by
              obtain ⟨e0, e1⟩ := nw_get e
              exact wo_at e1 fun q => by rw [q, hacc] at e0; cases e0
          · rintro D' vs H8 hD s8 hd vl hvs
            have hvl : vs.length = ps.length := by omega
            have s08 := s7.trans s8
            have prv : Paired (fun v o => ChV H8 v o) vs (ps.map some) := pr_of (by rw [hvl, List.length_map]) fun j v o e1 e2 => by
              rw [List.getElem?_map] at e2
              cases e3 : ps[j]? with
              | none => rw [e3] at e2; cases e2
              | some p' => rw [e3] at e2; cases e2; exact (hvs j v e1 p' e3).keep wo_same
            refine ⟨chtD (some p), (ps.map some).map chtD, (hv.keep (fun b u e => (sz.trans s8) _ _ (nw_get e).2)).dp, .lst (SqL.of hd) (dpAll_of (fun _ _ q => ChV.dp q) prv), shaped_cht (fun y e => by cases e; exact ok), shaped_chts (fun o m y e => by
              obtain ⟨y', my, rfl⟩ := List.mem_map.mp m
              cases e
              exact rows_ok pr _ my), _, rfl, ?_⟩
            rw [any_cht hc pc]
            refine ite2 (fun hd' => ?_) (fun hd' => ?_)
            · rw [if_pos hd'] at sc
              exact ⟨_, rfl, out i "twice" _ s08 (by rw [due3, sc])⟩
            · rw [if_neg hd'] at sc
              refine ⟨_, _, ps ++ [p], rfl, s08, (s6.trans (sz.trans s8)) _ _ hcw5, by rw [List.take_add_one, ho, tk', List.map_append]; rfl, by simp [pl], ?_, by rw [List.map_append]; exact sc⟩
              intro y my
              rcases List.mem_append.mp my with my | my
              · exact pc y my
              · rw [List.mem_singleton.mp my]; exact hc
    · rintro σ H4 ⟨v2, v3, ps, rfl, s4, hcw4, tk', pl, pc, sc⟩
      rw [show chgScan (ps.map chg) ys.length (dos.drop ys.length) = none by rw [List.drop_of_length_le (by omega)]; rfl] at sc
      exact k .non H4 s4 (by rw [due3, sc]; rfl)
end
end Kx

set_option maxHeartbeats 8000000
namespace Kx
open PySem L2
def tInts : List Int → TA
  | [] => tNil
  | i :: is => tCons (tC (V.int i)) (tInts is)
theorem ints_read : ∀ {is : List Int} {σ : L2.St} {H : Hp} {Q : List V → Hp → Prop}, Q (is.map V.int) H → tInts is σ H Q
  | [], _, _, _, h => h
  | i :: is, σ, H, Q, h => ints_read (is := is) (σ := σ) (H := H) (Q := fun vs H' => Q (V.int i :: vs) H') h
theorem one_ints {σ : L2.St} {H : Hp} {Q : VK} {E : XK} {p q : Addr} {is : List Int} (h0 : σ[0]? = some (some (V.ref p))) (hp : HandAt H p q) (l0 : 0 < is.length) (l1 : is.length ≤ 1000) (k : ∀ i H', i ∈ is → HandAt H' p q → Keep H H' p → Q (.int i) H') : tCall spOne [] E (tCons (tVar 0) (tCons (tLst (tInts is)) tNil)) σ H Q := by
  refine ⟨_, h0, ?_⟩
  show tInts is σ H fun xs H1 => xs.length ≤ sizeLine ∧ ∀ l, H1 l = none → spOne ([V.ref p, V.ref l] ++ []) (upd H1 l (.lst xs)) Q E
  refine ints_read ⟨Nat.le_of_lt (line2 (by rw [List.length_map]; omega)), fun l hl => ?_⟩
  have s1 := sameUpd (o := .lst (is.map V.int)) (Same.refl H) hl
  refine ⟨p, q, l, _, rfl, hp.same s1, upd_same, hp.ap hl, by rw [List.length_map]; exact l0, by rw [List.length_map]; exact l1, fun x H' hx hp' k' => ?_⟩
  obtain ⟨s, hs, rfl⟩ := List.mem_map.mp hx
  exact k s H' hs hp' fun b o e ne => k' b o (s1 b o e) ne
theorem sl_listK {X : Cx} {K : PySem.W.Frag} (h : X.K = K) : SlR X (rSlL K) := by
  subst h
  exact sl_list
theorem op_notInDK {X : Cx} {K : PySem.W.Frag} (h : X.K = K) (hu : X.A.units + 65 < cLine) : OpR X (compareOp .NotIn) (rNotInD K) := by
  subst h
  exact op_notInD hu
def rowD : Option Pc → PyData
  | none => .none
  | some p => dRow p
theorem RowV.dp {K : PySem.W.Frag} {N : Hp} {x : V} {o : Option Pc} (h : RowV N x o) : Dp K N x (rowD o) := by
  cases o with
  | none => have e : x = .non := h; rw [e]; exact .non
  | some p => obtain ⟨t, rfl, h, ok, _⟩ := h; exact h.dp ok
theorem lay_rowD {N : Hp} {x : V} {o : Option Pc} (h : RowV N x o) : PyData.canLay0 (rowD o) = true ∧ PyData.depth (rowD o) ≤ 1 := by
  cases o with
  | none => exact ⟨rfl, Nat.zero_le _⟩
  | some p => obtain ⟨t, _, _, ok, _⟩ := h; exact lay_row ok
theorem shaped_rowD {N : Hp} {x : V} {o : Option Pc} (h : RowV N x o) : SeqAt.shaped (rowD o) = true := by
  obtain ⟨a, b⟩ := lay_rowD h
  unfold SeqAt.shaped
  rw [Bool.and_eq_true]
  exact ⟨a, decide_eq_true (by omega)⟩
theorem shaped_rowsD {N : Hp} {xs : List V} {os : List (Option Pc)} (h : Paired (RowV N) xs os) : SeqAt.shaped (.list (os.map rowD)) = true := by
  obtain ⟨a, b⟩ := lay_map (f := rowD) (n := 1) (xs := os) fun o m => by
    obtain ⟨i, hi⟩ := List.mem_iff_getElem?.mp m
    obtain ⟨x, _, hx⟩ := Paired.at2 h hi
    exact lay_rowD hx
  unfold SeqAt.shaped
  rw [Bool.and_eq_true]
  exact ⟨a, decide_eq_true (by show PyData.depthAll (os.map rowD) + 1 ≤ 64; omega)⟩
def spParts : Sp := fun vs H Q _ => ∃ (p q : Addr), vs = [.ref p] ∧ HandAt H p q ∧ ∀ (a : Addr) (kv : V) (os dos : List (Option Pc)) H', PartsA (wo p H') a kv os dos → HandAt H' p q → Keep H H' p → Q (.ref a) H'
theorem wo2 {H H' : Hp} {p D : Addr} {o : HO} (s : Same H H') : Same (wo D (wo p H)) (wo D (wo p (upd H' D o))) := fun b u e => by
  obtain ⟨e1, n1⟩ := wo_get e
  obtain ⟨e2, n2⟩ := wo_get e1
  exact wo_at (wo_at (by rw [upd_ne n1]; exact s _ _ e2) n2) n1
theorem wo2k {H H' : Hp} {p D : Addr} (s : Keep H H' p) : Same (wo D (wo p H)) (wo D (wo p H')) := fun b u e => by
  obtain ⟨e1, n1⟩ := wo_get e
  obtain ⟨e2, n2⟩ := wo_get e1
  exact wo_at (wo_at (s _ _ e2 n2) n2) n1
/-- a row is no list -/
theorem RowV.off {H : Hp} {p D : Addr} {x : V} {o : Option Pc} {ys : List V} (h : RowV (wo p H) x o) (hd : H D = some (.lst ys)) : RowV (wo D (wo p H)) x o := by
  cases o with
  | none => exact h
  | some y =>
    obtain ⟨t, e, hr, ok⟩ := h
    refine ⟨t, e, wo_at hr fun z => ?_, ok⟩
    subst z
    have := (wo_get hr).1
    rw [hd] at this
    cases this
section
variable {P : Program} {w : World} {K : PySem.W.Frag} {mg : Str → Option Value} {base : Heap}
abbrev nCP : List Str := ["_law_hand_here", "_law_k", "_law_conditions", "_law_changes", "_law_row_here", "_law_things", "_law_kind", "_law_one_here"]
theorem scCP : FnScope nCP ["_law_hand_here"] (defScope sLClauseParts) := ⟨rfl, rfl, rfl, by decide +kernel, rfl, by decide +kernel, by decide +kernel⟩
theorem ok_cparts {f : Addr} {fd : FuncData} (F : Fun K "_law_clause_parts" "_law_clause_parts" sLClauseParts f fd) (m : mg "_law_clause_parts" = some (.ref f)) (T : Bl mg) (D : HDraw P w K mg base) (L : HasF P w K mg base "_law_letters" 3 ["_law_hand_here"] spLetters) (O : HasF P w K mg base "_law_one" 3 ["_law_hand_here", "_law_rows"] spOne) (Fe : HasF P w K mg base "_law_few" 4 ["_law_hand_here", "_law_change"] spFew) (Ct : HasF P w K mg base "_law_changed_thing" 1 ["_law_row_here"] spChTh) : HasF P w K mg base "_law_clause_parts" 5 ["_law_hand_here"] spParts := by
  refine ⟨f, fd, ?_, m, F.kp, F.binds fun _ _ _ _ _ _ us hl => by obtain ⟨_, rfl⟩ := us1 hl; exact rfl⟩
  obtain ⟨f1, fd1, D⟩ := D; obtain ⟨f2, fd2, L⟩ := L; obtain ⟨f3, fd3, O⟩ := O; obtain ⟨f4, fd4, Fe⟩ := Fe; obtain ⟨f5, fd5, Ct⟩ := Ct
  refine F.ok scCP (fun vs H Q E h => ?_) (fun cdv A outer s H vs Q E hr h => ?_)
  · obtain ⟨a, b, rfl, _⟩ := h
    rfl
  · obtain ⟨p, q, rfl, hp, k⟩ := h
    have hu := hu65 hr
    have hr1 : Room 1 _ := hr.mono (by decide)
    have hr2 : Room 2 _ := hr.mono (by decide)
    have hr3 : Room 3 _ := hr.mono (by decide)
    refine ⟨_, (C8.pss_cut (ps_set (i := 2) scCP.nd rfl (Or.inr rfl) (pe_lc (own := [("_law_k", 1)]) (g := gName 1) (tt := tYes) (te := tCall spFew [] E0 (tCons (tVar 0) (tCons (tC (.bl false)) tNil))) (by rfl) scCP.nd (pi_range1 (by rfl) T.range (pa_cons (pe_call O.G hr3 (by rfl) O.m O.kp O.b .nil pass0 (pa_cons (pv 0) (pa_cons (pe_lst (pa_cons pe_int (pa_cons pe_int (pa_cons pe_int (pa_cons pe_int (pa_cons pe_int (pa_cons pe_int pa_nil))))))) pa_nil))) pa_nil)) (blkOk_by (own := [("_law_k", 1)]) (N := nCP) (sc := defScope sLClauseParts) (by decide +kernel))
          (fun _ _ _ _ _ => pg_name (i := 1) scCP.nd rfl (Or.inl rfl)) (fun _ _ _ _ _ => pts_nil) (fun _ _ _ _ _ => (pe_call Fe.G hr (by rfl) Fe.m Fe.kp Fe.b .nil pass0 (pa_cons (pv 0) (pa_cons pe_bl pa_nil))))))
    (C8.pss_cut (ps_set (i := 3) scCP.nd rfl (Or.inl rfl) (pe_lst pa_nil))
    (C8.pss_cut (ps_for PassesOwn.never rfl (pi_range1 (by rfl) T.range (pa_cons (pe_call O.G hr3 (by rfl) O.m O.kp O.b .nil pass0 (pa_cons (pv 0) (pa_cons (pe_lst (pa_cons pe_int (pa_cons pe_int (pa_cons pe_int (pa_cons pe_int (pa_cons pe_int (pa_cons pe_int (pa_cons pe_int pa_nil)))))))) pa_nil))) pa_nil)) (pg_name (i := 1) scCP.nd rfl (.inl rfl))
        (C8.pss_cut (ps_set (i := 4) scCP.nd rfl (Or.inl rfl) (pe_call Fe.G hr (by rfl) Fe.m Fe.kp Fe.b .nil pass0 (pa_cons (pv 0) (pa_cons pe_bl pa_nil))))
    (C8.pss_cut (ps_setLc (i := 5) (own := [("_law_one_here", 7)]) (g := gName 7) (tt := tYes) (te := tCall spChTh [] E0 (tCons (tVar 7) tNil)) (by rfl) scCP.nd rfl rfl (sw_true rfl rfl rfl (by decide +kernel)) (pi_seq (pv 3)) (blkOk_by (own := [("_law_one_here", 7)]) (N := nCP) (sc := defScope sLClauseParts) (by decide +kernel))
            (fun _ _ _ _ _ => pg_name (i := 7) scCP.nd rfl (Or.inl rfl)) (fun _ _ _ _ _ => pts_nil) (fun _ _ _ _ _ => (pe_call Ct.G hr1 (by rfl) Ct.m Ct.kp Ct.b .nil pass0 (pa_cons (pv 7) pa_nil))))
    (pss_one (ps_if (PW.pt (pw_or (pt_cmpR (op_notInD hu) (pe_call Ct.G hr1 (by rfl) Ct.m Ct.kp Ct.b .nil pass0 (pa_cons (pv 4) pa_nil)) (pv 5) (by rfl)) (pw_or1 (pt_cmpR op_eq (pe_call D.G hr2 (by rfl) D.m D.kp D.b .nil pass0 (pa_cons (pv 0) (pa_cons pe_int pa_nil))) pe_int (nomark _))))) (pss_one (ps_expr (pe_bm PySem.F.plainAttrs_list PySem.F.slot_list_append PySem.F.type_list_append mt_append (pv 3) (pa_cons (pv 4) pa_nil)))) pss_nil)))))
    (C8.pss_cut (ps_set (i := 6) scCP.nd rfl (Or.inl rfl) (pe_call O.G hr3 (by rfl) O.m O.kp O.b .nil pass0 (pa_cons (pv 0) (pa_cons (pe_lst (pa_cons pe_str (pa_cons pe_str (pa_cons (pe_call L.G hr3 (by rfl) L.m L.kp L.b .nil pass0 (pa_cons (pv 0) pa_nil)) (pa_cons (pe_call L.G hr3 (by rfl) L.m L.kp L.b .nil pass0 (pa_cons (pv 0) pa_nil)) (pa_cons (pe_call O.G hr3 (by rfl) O.m O.kp O.b .nil pass0 (pa_cons (pv 0) (pa_cons (pe_lst (pa_cons pe_str (pa_cons pe_str (pa_cons pe_non (pa_cons pe_int (pa_cons (pe_tup (pa_cons pe_str pa_nil)) pa_nil)))))) pa_nil))) pa_nil)))))) pa_nil))))
    (pss_one (ps_ret (pe_lst (pa_cons (pv 6) (pa_cons (pe_lc (own := [("_law_k", 1), ("_law_row_here", 4)]) (g := gTup K 2 (gCons (gName 1) (gCons (gName 4) gNil))) (te := tVar 4) (by rfl) scCP.nd (pi_enumB (by rfl) T.enumerate (pa_cons (pv 2) pa_nil)) (blkOk_by (own := [("_law_k", 1), ("_law_row_here", 4)]) (N := nCP) (sc := defScope sLClauseParts) (by decide +kernel))
          (fun _ _ _ _ _ => pg_tup rfl (pgs_cons (pg_name scCP.nd rfl (.inl rfl)) (pgs_cons (pg_name scCP.nd rfl (.inl rfl)) pgs_nil))) (fun _ _ _ _ _ => pts_one (PW.pt (pw_or (pt_cmpR (op_notInDK (K := K) rfl hu) (pv 4) (pe_slice (sl_listK (K := K) rfl) (pv 2) po_none (po_some (pv 1))) (by rfl)) (pw_or1 (pt_cmpR op_eq (pe_call D.G hr2 (by rfl) D.m D.kp D.b .nil pass0 (pa_cons (pv 0) (pa_cons pe_int pa_nil))) pe_int (nomark _)))))) (fun _ _ _ _ _ => pv 4)) (pa_cons (pv 3) pa_nil)))))))))), ?_⟩
    -- the conditions
    refine ⟨fun σ H1 => ∃ cl xs os, σ = [some (.ref p), none, some (.ref cl), none, none, none, none, none] ∧ HandAt H1 p q ∧ Keep H H1 p ∧ wo p H1 cl = some (.lst xs) ∧ Paired (RowV (wo p H1)) xs os ∧ xs.length ≤ 7, ?_, ?_⟩
    · show tCall spOne [] E0 (tCons (tVar 0) (tCons (tLst (tInts [0, 1, 2, 3, 6, 7])) tNil)) _ _ _
      refine one_ints rfl hp (by decide) (by decide) fun j H1 hj hp1 k1 => ?_
      have j0 : 0 ≤ j ∧ j ≤ 7 := by
        simp only [List.mem_cons, List.not_mem_nil, or_false] at hj
        rcases hj with rfl | rfl | rfl | rfl | rfl | rfl <;> decide
      refine ⟨_, rfl, by omega, by omega, fun D' hD => lc_range (n := j.toNat) (fun i H2 => HandAt H2 p q ∧ Keep H1 H2 p ∧ ∃ acc os, H2 D' = some (.lst acc) ∧ acc.length = i ∧ i ≤ 7 ∧ Paired (RowV (wo D' (wo p H2))) acc os)
        ⟨hp1.upd (hp1.ap hD) (hp1.aq hD), keepUpd Keep.refl hD, [], [], upd_same, rfl, Nat.zero_le _, .nil⟩ ?_ ?_⟩
      · rintro i H2 hi ⟨hp2, k2, acc, os, hd, al, _, pr⟩
        have dp : D' ≠ p := hp1.ap hD
        refine ⟨rfl, ?_⟩
        show tCall spFew [] E0 (tCons (tVar 0) (tCons (tC (.bl false)) tNil)) _ _ _
        refine ⟨_, rfl, p, q, false, rfl, hp2, fun x o H3 hx _ _ hp3 k3 => ?_⟩
        have hd3 := k3 _ _ hd dp
        have nx := RowV.off hx hd3
        refine ⟨acc, hd3, line2 (by omega), hp3.upd dp (hp1.aq hD), keepUpd (k2.trans k3) hD, acc ++ [x], os ++ [o], upd_same, by simp [al], by omega, ?_⟩
        exact paired_app (pr_imp pr fun _ _ q => (q.keep (wo2k k3)).keep (wo2 (Same.refl _))) (nx.keep (wo2 (Same.refl _)))
      · rintro H2 ⟨hp2, k2, acc, os, hd, al, _, pr⟩
        exact ⟨D', acc, os, rfl, hp2, k1.trans k2, wo_at hd (hp1.ap hD), pr_imp pr fun _ _ q => q.keep wo_same, by omega⟩
    rintro σ H1 ⟨cl, xs, os, rfl, hp1, k1, hcl, px, lx⟩
    refine ⟨fun σ H2 => ∃ dl, σ = [some (.ref p), none, some (.ref cl), some (.ref dl), none, none, none, none] ∧ H1 dl = none ∧ HandAt H2 p q ∧ Keep H1 H2 p ∧ H2 dl = some (.lst []), ?_, ?_⟩
    · exact ⟨Nat.zero_le _, fun dl hdl => ⟨dl, rfl, hdl, hp1.upd (hp1.ap hdl) (hp1.aq hdl), keepUpd Keep.refl hdl, upd_same⟩⟩
    rintro σ H2 ⟨dl, rfl, hdl0, hp2, k2, hdl2⟩
    have dlp : dl ≠ p := hp1.ap hdl0
    -- the changes
    refine ⟨fun σ H3 => ∃ (v1 v4 v5 : Option V) (ys : List V) (dos : List (Option Pc)), σ = [some (.ref p), v1, some (.ref cl), some (.ref dl), v4, v5, none, none] ∧ HandAt H3 p q ∧ Keep H1 H3 p ∧ H3 dl = some (.lst ys) ∧ Paired (RowV (wo dl (wo p H3))) ys dos ∧ ys.length ≤ 9, ?_, ?_⟩
    · show tCall spOne [] E0 (tCons (tVar 0) (tCons (tLst (tInts [0, 1, 2, 3, 5, 8, 9])) tNil)) _ _ _
      refine one_ints rfl hp2 (by decide) (by decide) fun j H3 hj hp3 k3 => ?_
      have j0 : 0 ≤ j ∧ j ≤ 9 := by
        simp only [List.mem_cons, List.not_mem_nil, or_false] at hj
        rcases hj with rfl | rfl | rfl | rfl | rfl | rfl | rfl <;> decide
      refine ⟨_, rfl, by omega, by omega, for_range (n := j.toNat) (fun i σ H3 => ∃ (v1 v4 v5 : Option V) (ys : List V) (dos : List (Option Pc)), σ = [some (.ref p), v1, some (.ref cl), some (.ref dl), v4, v5, none, none] ∧ HandAt H3 p q ∧ Keep H1 H3 p ∧ H3 dl = some (.lst ys) ∧ Paired (RowV (wo dl (wo p H3))) ys dos ∧ ys.length ≤ i ∧ i ≤ 9 ∧ ∀ o ∈ dos, ∀ y, o = some y → y.1.cond = false ∨ y.1 = .room)
        ⟨none, none, none, [], [], rfl, hp3, k2.trans k3, k3 _ _ hdl2 dlp, .nil, Nat.le_refl _, Nat.zero_le _, fun o m => nomatch m⟩ ?_ ?_⟩
      · rintro i σ H4 hi ⟨v1, v4, v5, ys, dos, rfl, hp4, k4, hdl4, py, ly, _, pp⟩
        -- a row
        refine ⟨fun σ Ha => ∃ (v1 : Option V) (x : V) (o : Option Pc), σ = [some (.ref p), v1, some (.ref cl), some (.ref dl), some x, v5, none, none] ∧ HandAt Ha p q ∧ Keep H1 Ha p ∧ Ha dl = some (.lst ys) ∧ Paired (RowV (wo dl (wo p Ha))) ys dos ∧ RowV (wo dl (wo p Ha)) x o ∧ ∀ y, o = some y → y.1.cond = false ∨ y.1 = .room, ?_, ?_⟩
        · refine ⟨_, rfl, p, q, true, rfl, hp4, fun x o Ha hx _ px2 hpa ka => ?_⟩
          exact ⟨_, x, o, rfl, hpa, k4.trans ka, ka _ _ hdl4 dlp, pr_imp py fun _ _ q => q.keep (wo2k ka), hx.off (ka _ _ hdl4 dlp), px2 rfl⟩
        rintro σ Ha ⟨v1, x, o, rfl, hpa, ka, hdla, pya, hxa, pxo⟩
        have old : ∀ {y : V} {o' : Option Pc}, RowV (wo dl (wo p Ha)) y o' → RowV Ha y o' := fun h => (h.keep wo_same).keep wo_same
        -- what is changed so far
        refine ⟨fun σ Hb => ∃ (Dt : Addr) (vs : List V), σ = [some (.ref p), v1, some (.ref cl), some (.ref dl), some x, some (.ref Dt), none, none] ∧ Same Ha Hb ∧ Hb Dt = some (.lst vs) ∧ Paired (ChV Hb) vs dos, ?_, ?_⟩
        · refine ⟨_, rfl, dl, rfl, lc_pure (g := gName 7) (fun j v H' => ∀ o', dos[j]? = some o' → ChV H' v o') (fun j v H' H'' g s o' e => (g o' e).keep s) (IsSeq.lst hdla) (Same.refl _) (by omega) ?_ ?_ (fun x σ H Q Q' q z => q _ _ z)⟩
          · rintro D' j y H8 kk hj hD s8 ⟨acc, hacc⟩ hk
            obtain ⟨o', ho', hy⟩ := Paired.at pya hj
            refine ⟨rfl, _, rfl, y, o', rfl, (old hy).keep s8, pp o' (List.mem_iff_getElem?.mpr ⟨j, ho'⟩), fun v' H9 s9 hv' => hk v' H9 s9 fun o'' e => ?_⟩
            rw [ho'] at e
            cases e
            exact hv'.keep fun b u e => by
              obtain ⟨e0, e1⟩ := nw_get e
              exact wo_at e1 fun q => by rw [q, hacc] at e0; cases e0
          · rintro D' vs H8 hD s8 hd vl hvs
            exact ⟨D', vs, rfl, s8, hd, pr_of (by rw [vl, Paired.length pya]) fun j v o' e1 e2 => (hvs j v e1 o' e2).keep wo_same⟩
        rintro σ Hb ⟨Dt, vs, rfl, sb, hDt, pv⟩
        have hdlb := sb _ _ hdla
        have sz : SeqAt.shaped (.list (dos.map chtD)) = true := shaped_chts fun o' m y e => by
          obtain ⟨j, hj⟩ := List.mem_iff_getElem?.mp m
          obtain ⟨z, _, hz⟩ := Paired.at2 pya hj
          subst e
          obtain ⟨_, _, _, ok, _⟩ := hz
          exact ok
        have szx : SeqAt.shaped (chtD o) = true := shaped_cht fun y e => by
          subst e
          obtain ⟨_, _, _, ok, _⟩ := hxa
          exact ok
        refine ⟨_, rfl, x, o, rfl, (old hxa).keep sb, pxo, fun v Hc sc hv => ?_⟩
        have sac := sb.trans sc
        refine ⟨_, rfl, chtD o, dos.map chtD, (hv.keep (fun b u e => (nw_get e).2)).dp, .lst (SqL.of (sc _ _ hDt)) (dpAll_of (fun _ _ q => ChV.dp q) (pr_imp pv fun _ _ q => q.keep sc)), szx, sz, _, rfl, ?_⟩
        have app : ∀ Hd, HandAt Hd p q → Keep Hc Hd p → (∃ (v1' v4' v5' : Option V) (ys' : List V) (dos' : List (Option Pc)), [some (V.ref p), v1, some (.ref cl), some (.ref dl), some x, some (.ref Dt), none, none] = [some (.ref p), v1', some (.ref cl), some (.ref dl), v4', v5', none, none] ∧ HandAt (upd Hd dl (.lst (ys ++ [x]))) p q ∧ Keep H1 (upd Hd dl (.lst (ys ++ [x]))) p ∧ (upd Hd dl (.lst (ys ++ [x]))) dl = some (.lst ys') ∧ Paired (RowV (wo dl (wo p (upd Hd dl (.lst (ys ++ [x])))))) ys' dos' ∧ ys'.length ≤ i + 1 ∧ i + 1 ≤ 9 ∧ ∀ o ∈ dos', ∀ y, o = some y → y.1.cond = false ∨ y.1 = .room) := fun Hd hpd kd => by
          have kad : Keep Ha Hd p := fun b u e ne => kd b u (sac b u e) ne
          have w2 : Same (wo dl (wo p Ha)) (wo dl (wo p (upd Hd dl (.lst (ys ++ [x]))))) := (wo2k kad).trans (wo2 (Same.refl _))
          refine ⟨_, _, _, ys ++ [x], dos ++ [o], rfl, hpd.upd dlp (hp1.aq hdl0), fun b u e ne => ?_, upd_same, paired_app (pr_imp pya fun _ _ q => q.keep w2) (hxa.keep w2), by simp; omega, by omega, fun o' m => ?_⟩
          · rw [upd_ne (ne_of_none e hdl0)]
            exact kad b u (ka b u e ne) ne
          · rcases List.mem_append.mp m with m | m
            · exact pp o' m
            · rw [List.mem_singleton.mp m]; exact pxo
        have hpc := (hpa.same sb).same sc
        refine ite2 (fun _ => ?_) (fun _ => ?_)
        · exact ⟨_, rfl, .inl ⟨rfl, _, SqL.of (sc _ _ hdlb)⟩, _, rfl, dl, _, _, rfl, rfl, sc _ _ hdlb, line2 (by omega), app Hc hpc Keep.refl⟩
        · refine ⟨_, rfl, p, q, 6, rfl, hpc, by decide, by decide, fun z Hd z0 z1 hpd kd => ?_⟩
          refine ⟨rfl, _, rfl, ?_⟩
          have hdld := kd _ _ (sc _ _ hdlb) dlp
          refine ite2 (fun _ => ?_) (fun _ => ?_)
          · exact ⟨_, rfl, .inl ⟨rfl, _, SqL.of hdld⟩, _, rfl, dl, _, _, rfl, rfl, hdld, line2 (by omega), app Hd hpd kd⟩
          · have kad : Keep Ha Hd p := fun b u e ne => kd b u (sac b u e) ne
            exact ⟨_, _, _, ys, dos, rfl, hpd, ka.trans kad, hdld, pr_imp pya fun _ _ q => q.keep (wo2k kad), by omega, by omega, pp⟩
      · rintro σ H4 ⟨v1, v4, v5, ys, dos, rfl, hp4, k4, hdl4, py, ly, l9, _⟩
        exact ⟨v1, v4, v5, ys, dos, rfl, hp4, k4, hdl4, py, by omega⟩
    rintro σ H3 ⟨v1, v4, v5, ys, dos, rfl, hp3, k3, hdl3, py, ly⟩
    -- the kind
    refine ⟨fun σ H4 => ∃ (kv : V) (n : String), σ = [some (.ref p), v1, some (.ref cl), some (.ref dl), v4, v5, some kv, none] ∧ HandAt H4 p q ∧ Keep H3 H4 p ∧ Thing (wo p H4) kv n, ?_, ?_⟩
    · refine ⟨_, rfl, _, rfl, p, q, rfl, hp3, fun z1 Ha hz1 hpa ka => ?_⟩
      refine ⟨_, rfl, p, q, rfl, hpa, fun z2 Hb hz2 hpb kb => ?_⟩
      refine ⟨_, rfl, (by show 1 ≤ sizeLine; decide), fun t ht => ⟨(by show 5 ≤ sizeLine; decide), fun l hl => ?_⟩⟩
      have s1 := sameUpd (o := .tup [V.str "a"]) (Same.refl Hb) ht
      have tp : t ≠ p := hpb.ap ht
      generalize eL : [V.str "", V.str "G", V.non, V.int 1, V.ref t] = L
      have s2 := sameUpd (o := .lst L) s1 hl
      have et : upd (upd Hb t (.tup [V.str "a"])) l (.lst L) t = some (.tup [V.str "a"]) := by rw [upd_ne (ne_of_none upd_same hl)]; exact upd_same
      refine ⟨p, q, l, L, rfl, hpb.same s2, upd_same, (hpb.same s1).ap hl, (by rw [← eL]; show 0 < 5; decide), (by rw [← eL]; show 5 ≤ 1000; decide), fun kx Hc hkx hpc kc => ?_⟩
      refine ⟨(by show 5 ≤ sizeLine; decide), fun l2 hl2 => ?_⟩
      generalize eM : [V.str "year", V.str "grant", V.str z1, V.str z2, kx] = M
      have s3 := sameUpd (o := .lst M) (Same.refl Hc) hl2
      refine ⟨p, q, l2, M, rfl, hpc.same s3, upd_same, hpc.ap hl2, (by rw [← eM]; show 0 < 5; decide), (by rw [← eM]; show 5 ≤ 1000; decide), fun x Hd hx hpd kd => ?_⟩
      have kcd : Keep Hc Hd p := fun b u e ne => kd b u (s3 b u e) ne
      have ktd : Keep Hb Hd p := fun b u e ne => kcd b u (kc b u (s2 b u e) ne) ne
      have k3d : Keep H3 Hd p := (ka.trans kb).trans ktd
      have et2 : wo p Hd t = some (.tup [V.str "a"]) := wo_at (kcd _ _ (kc _ _ et tp) tp) tp
      have th : ∃ n, Thing (wo p Hd) x n := by
        have fl : ∀ {x : V}, FlatT x → ∃ n, Thing (wo p Hd) x n := fun h => h.imp fun n t => t _
        rw [← eM] at hx
        simp only [List.mem_cons, List.not_mem_nil, or_false] at hx
        rcases hx with e | e | e | e | e
        · subst e; exact fl (flat_str (by decide +kernel))
        · subst e; exact fl (flat_str (by decide +kernel))
        · subst e; exact ⟨_, lab_thing hz1⟩
        · subst e; exact ⟨_, lab_thing hz2⟩
        · subst e
          rw [← eL] at hkx
          simp only [List.mem_cons, List.not_mem_nil, or_false] at hkx
          rcases hkx with e | e | e | e | e <;> subst e
          · exact fl (flat_str (by decide +kernel))
          · exact fl (flat_str (by decide +kernel))
          · exact fl flat_non
          · exact fl (flat_int _)
          · exact ⟨_, .tup t _ et2, fun z e => nomatch e⟩
      obtain ⟨n, th⟩ := th
      exact ⟨x, n, rfl, hpd, k3d, th⟩
    rintro σ H4 ⟨kv, n, rfl, hp4, k4, tk⟩
    have k14 : Keep H1 H4 p := k3.trans k4
    have px4 : Paired (RowV (wo p H4)) xs os := pr_imp px fun _ _ q => q.keep (wo_keep k14)
    have hcl4 : wo p H4 cl = some (.lst xs) := wo_keep k14 _ _ hcl
    have lxo := Paired.length px
    refine ⟨_, rfl, _, rfl, cl, xs, rfl, ?_⟩
    refine lc_en (IsSeq.lst hcl4) wo_same fun D' hD => ⟨fun i H5 => HandAt H5 p q ∧ Keep H4 H5 p ∧ ∃ acc os', H5 D' = some (.lst acc) ∧ Paired (RowV (wo D' (wo p H5))) acc os' ∧ acc.length ≤ i ∧ i ≤ xs.length,
      ⟨hp4.upd (hp4.ap hD) (hp4.aq hD), keepUpd Keep.refl hD, [], [], upd_same, .nil, Nat.le_refl _, Nat.zero_le _⟩, fun i H5 ⟨_, k5, _⟩ => (wo_keep k5).trans wo_same, ?_, ?_⟩
    · rintro i x H5 T hi ⟨hp5, k5, acc, os', hd5, pa, al, _⟩ hT
      have lt : i < xs.length := (List.getElem?_eq_some_iff.mp hi).1
      obtain ⟨o, ho, hx⟩ := Paired.at px4 hi
      have dp : D' ≠ p := hp4.ap hD
      have sT := sameUpd (o := .tup [.int (i : Nat), x]) (Same.refl H5) hT
      have hx5 : RowV (wo D' (wo p H5)) x o := (hx.keep (wo_keep k5)).off hd5
      have old : Same (wo p H4) (upd H5 T (.tup [.int (i : Nat), x])) := ((wo_keep k5).trans wo_same).trans sT
      refine ⟨T, _, rfl, SqT.of upd_same, rfl, _, _, rfl, _, _, rfl, rfl, rfl, ?_⟩
      refine ⟨_, rfl, _, rfl, _, rfl, _, rfl, cl, xs, rfl, SqL.of (old _ _ hcl4), fun z hz => ?_⟩
      rw [cut_take xs i (by omega)]
      have sz := sameUpd (o := .lst (xs.take i)) (Same.refl _) hz
      have oldz := old.trans sz
      have prt : Paired (RowV (wo p H4)) (xs.take i) (os.take i) := take_paired px4 i
      refine ⟨rowD o, (os.take i).map rowD, (hx.keep oldz).dp, .lst (SqL.of upd_same) (dpAll_of (fun _ _ q => RowV.dp q) (pr_imp prt fun _ _ q => q.keep oldz)), shaped_rowD hx, shaped_rowsD prt, _, rfl, ?_⟩
      have hpz := (hp5.same sT).same sz
      have sTz : Same H5 (upd (upd H5 T (.tup [.int (i : Nat), x])) z (.lst (xs.take i))) := sT.trans sz
      have put : ∀ Hd, HandAt Hd p q → Keep (upd (upd H5 T (.tup [.int (i : Nat), x])) z (.lst (xs.take i))) Hd p → ∃ acc0, Hd D' = some (.lst acc0) ∧ acc0.length < sizeLine ∧ (HandAt (upd Hd D' (.lst (acc0 ++ [x]))) p q ∧ Keep H4 (upd Hd D' (.lst (acc0 ++ [x]))) p ∧ ∃ acc os', upd Hd D' (.lst (acc0 ++ [x])) D' = some (.lst acc) ∧ Paired (RowV (wo D' (wo p (upd Hd D' (.lst (acc0 ++ [x])))))) acc os' ∧ acc.length ≤ i + 1 ∧ i + 1 ≤ xs.length) := fun Hd hpd kd => by
        have k5d : Keep H5 Hd p := fun b u e ne => kd b u (sTz b u e) ne
        have w2 : Same (wo D' (wo p H5)) (wo D' (wo p (upd Hd D' (.lst (acc ++ [x]))))) := (wo2k k5d).trans (wo2 (Same.refl _))
        exact ⟨acc, k5d _ _ hd5 dp, line2 (by omega), hpd.upd dp (hp4.aq hD), keepUpd (k5.trans k5d) hD, acc ++ [x], os' ++ [o], upd_same, paired_app (pr_imp pa fun _ _ q => q.keep w2) (hx5.keep w2), by simp; omega, lt⟩
      refine ite2 (fun _ => ⟨_, rfl, put _ hpz Keep.refl⟩) (fun _ => ?_)
      refine ⟨_, rfl, p, q, 5, rfl, hpz, by decide, by decide, fun y Hd y0 y1 hpd kd => ⟨rfl, _, rfl, ?_⟩⟩
      refine ite2 (fun _ => ⟨_, rfl, put Hd hpd kd⟩) (fun _ => ?_)
      have k5d : Keep H5 Hd p := fun b u e ne => kd b u (sTz b u e) ne
      exact ⟨hpd, k5.trans k5d, acc, os', k5d _ _ hd5 dp, pr_imp pa fun _ _ q => q.keep (wo2k k5d), by omega, lt⟩
    · rintro H5 ⟨hp5, k5, acc, os', hd5, pa, al, _⟩
      have dp : D' ≠ p := hp4.ap hD
      have lao := Paired.length pa
      have lyo := Paired.length py
      refine ⟨_, rfl, (by show 3 ≤ sizeLine; decide), fun a ha => ?_⟩
      have sa := sameUpd (o := .lst [kv, .ref D', .ref dl]) (Same.refl H5) ha
      have k05 : Keep H (upd H5 a (.lst [kv, .ref D', .ref dl])) p := fun b u e ne => sa b u (k5 b u (k14 b u (k1 b u e ne) ne) ne)
      have wa : Same (wo p H5) (wo p (upd H5 a (.lst [kv, .ref D', .ref dl]))) := wo_keep (Same.keep sa)
      have k35 : Same (wo p H3) (wo p H5) := wo_keep (k4.trans k5)
      refine k a kv os' dos _ ⟨⟨n, D', dl, acc, ys, wo_at upd_same (hp5.ap ha), tk.keep ((wo_keep k5).trans wa), wa _ _ (wo_at hd5 dp), pr_imp pa fun _ _ q => (q.keep wo_same).keep wa, wa _ _ (k35 _ _ (wo_at hdl3 dlp)), pr_imp py fun _ _ q => ((q.keep wo_same).keep k35).keep wa⟩, by omega, by omega⟩ (hp5.same sa) k05
end
end Kx

set_option maxHeartbeats 8000000
namespace Kx
open PySem L2
/-- a piece of a row, or None -/
def PieceV (Cs : Pk → Addr) (N : Hp) (y : V) (o : Option Pc) : Prop := match o with
  | none => y = .non
  | some p => ∃ a, y = .ref a ∧ PcA Cs N a p.1 p.2
theorem PieceV.keep {Cs : Pk → Addr} {H H' : Hp} {y : V} {o : Option Pc} (h : PieceV Cs H y o) (s : Same H H') : PieceV Cs H' y o := by
  cases o with
  | none => exact h
  | some p => obtain ⟨a, e, h⟩ := h; exact ⟨a, e, h.keep s⟩
theorem PieceV.item {Cs : Pk → Addr} {H : Hp} {y : V} {o : Option Pc} (h : PieceV Cs H y o) : ItemIs Cs H y o := by
  cases o with
  | none => have e : y = .non := h; rw [e]; exact .oth (n := "NoneType") ⟨.non, fun z e => nomatch e⟩
  | some p => obtain ⟨a, rfl, h⟩ := h; exact .pc h
def spPieces (Cs : Pk → Addr) : Sp := fun vs H Q _ => ∃ (c : Addr) (xs : List V) (os : List (Option Pc)), vs = [.ref c] ∧ H c = some (.lst xs) ∧ Paired (RowV H) xs os ∧ os.length ≤ 2000 ∧ ∀ l ys H', Same H H' → H l = none → H' l = some (.lst ys) → Paired (PieceV Cs (wo l H')) ys os → Q (.ref l) H'
def spTryC (K : PySem.W.Frag) (Cs : Pk → Addr) (CC : Addr) : Sp := fun vs H Q _ => ∃ (kv cv dv : V) (n : String) (co dos : Option (List (Option Pc))), vs = [kv, cv, dv] ∧ Thing H kv n ∧ SeqIs K Cs H cv co ∧ SeqIs K Cs H dv dos ∧
  match clDue kv co dos with
  | some (i, w) => ∀ t H', Same H H' → H t = none → H' t = some (.tup [.int i, .str w]) → Q (.ref t) H'
  | none => ∀ (a : Addr) (z : Str) (cs ds : List Pc) H', kv = .str z → co = some (cs.map some) → dos = some (ds.map some) → Same H H' → H a = none → ClA K Cs CC H' a z cs ds → Q (.ref a) H'
def Ref3 (H : Hp) (i : Nat) (w : Str) (Q : VK) : Prop := ∀ t H', Same H H' → H t = none → H' t = some (.tup [.int i, .str w, .str "refused"]) → Q (.ref t) H'
def spMore (K : PySem.W.Frag) (Cs : Pk → Addr) (CC : Addr) : Sp := fun vs H Q _ => ∃ (a : Addr) (y : V) (s : Bool) (z : Str) (cs ds : List Pc) (o : Option Pc), vs = [.ref a, y, .bl s] ∧ ClA K Cs CC H a z cs ds ∧ ItemIs Cs H y o ∧
  match condDue (some (cs.map some ++ [o])) with
  | some (i, w) => Ref3 H i w Q
  | none => ∀ p, o = some p → if s = true then (match condDue (some ((cs ++ [oppP p]).map some)) with
      | some (i, w) => Ref3 H i w Q
      | none => ∀ (t b c : Addr) H', Same H H' → H t = none → H' t = some (.tup [.ref b, .ref c]) → ClA K Cs CC H' b z (cs ++ [p]) ds → ClA K Cs CC H' c z (cs ++ [oppP p]) ds → Q (.ref t) H')
    else ∀ b H', H b = none → Same H H' → ClA K Cs CC H' b z (cs ++ [p]) ds → Q (.ref b) H'
section
variable {P : Program} {w : World} {K : PySem.W.Frag} {mg : Str → Option Value} {base : Heap}
abbrev nPs : List Str := ["_law_rows", "_law_row_here"]
theorem scPs : FnScope nPs ["_law_rows"] (defScope sLPieces) := ⟨rfl, rfl, rfl, by decide +kernel, rfl, by decide +kernel, by decide +kernel⟩
theorem ok_pieces {f Bc Bh : Addr} {fd : FuncData} {Cs : Pk → Addr} (F : Fun K "_law_pieces" "_law_pieces" sLPieces f fd) (m : mg "_law_pieces" = some (.ref f)) (PF : PieceF P w K mg base Cs Bc Bh) : HasF P w K mg base "_law_pieces" 7 ["_law_rows"] (spPieces Cs) := by
  refine ⟨f, fd, ?_, m, F.kp, F.binds fun _ _ _ _ _ _ us hl => by obtain ⟨_, rfl⟩ := us1 hl; exact rfl⟩
  obtain ⟨f1, fd1, m1, k1, b1, G1⟩ := PF
  refine F.ok scPs (fun vs H Q E h => ?_) (fun cdv A outer s H vs Q E hr h => ?_)
  · obtain ⟨a, b, c, rfl, _⟩ := h
    rfl
  · obtain ⟨c, xs, os, rfl, hc, px, lo, k⟩ := h
    have lx := Paired.length px
    refine ⟨_, pss_one (ps_ret (pe_lc (own := [("_law_row_here", 1)]) (g := gName 1) (tt := tYes) (by rfl) scPs.nd (pi_seq (pv 0)) (blkOk_by (own := [("_law_row_here", 1)]) (N := nPs) (sc := defScope sLPieces) (by decide +kernel))
      (fun _ _ _ _ _ => pg_name (i := 1) scPs.nd rfl (Or.inl rfl)) (fun _ _ _ _ _ => pts_nil) (fun _ _ _ _ _ => pe_ifExp (pt_cmpR op_isN (pv 1) pe_non (nomark _)) pe_non (pe_call G1 hr (by rfl) m1 k1 b1 .nil passL (pa_cons (pv 1) pa_nil))))), ?_⟩
    refine ⟨_, rfl, c, rfl, lc_pure (g := gName 1) (fun j y H' => ∀ o, os[j]? = some o → PieceV Cs H' y o) (fun j y H' H'' g s o e => (g o e).keep s) (IsSeq.lst hc) (Same.refl _) (by omega) ?_ ?_ (fun x σ H Q Q' q z => q _ _ z)⟩
    · rintro D' j x H1 kk hj hD s1 ⟨acc, hacc⟩ hk
      obtain ⟨o, ho, hx⟩ := Paired.at px hj
      refine ⟨rfl, ?_⟩
      cases o with
      | none =>
        have e : x = .non := hx
        subst e
        exact ⟨_, rfl, rfl, _, rfl, iteT (hk .non H1 (Same.refl _) fun o e => by rw [ho] at e; cases e; rfl)⟩
      | some p =>
        obtain ⟨t, rfl, hr', ok, _⟩ := hx
        obtain ⟨l1, _⟩ := good_args ok
        refine ⟨_, rfl, rfl, _, rfl, iteF ⟨_, rfl, t, p.1, p.2, rfl, s1 _ _ hr', l1, good_things ok, ?_⟩⟩
        unfold PieceOut Pk.pw
        rw [show p.1.sh.pw p.2 = none from ok]
        refine fun a H2 ha s2 hp => hk (.ref a) H2 s2 fun o e => ?_
        rw [ho] at e
        cases e
        obtain ⟨dx, ea⟩ := hp.ob
        exact ⟨a, rfl, ⟨dx, wo_at ea fun q => by rw [q, hacc] at ha; cases ha⟩, ok⟩
    · intro D' ys H1 hD s1 hd yl hys
      exact k D' ys H1 s1 hD hd (pr_of (by omega) fun j y o e1 e2 => hys j y e1 o e2)
theorem scTryC : FnScope ["_law_kind", "_law_conditions", "_law_changes", "e"] ["_law_kind", "_law_conditions", "_law_changes"] (defScope sLTryClause) := ⟨rfl, rfl, rfl, by decide +kernel, rfl, by decide +kernel, by decide +kernel⟩
theorem ok_tryc {f CC CB Bc CS fI : Addr} {fd fdI : FuncData} {Cs : Pk → Addr} (F : Fun K "_law_try_clause" "_law_try_clause" sLTryClause f fd) (m : mg "_law_try_clause" = some (.ref f)) (B : Bm mg) (M : ClM P w K mg base Cs CC CB fI fdI) (X : ErX K mg "BadClause" CB CS Bc "BadCondition" "index") (n2 : PySem.W.findIn K (.ref CB) "what" = some none) : HasF P w K mg base "_law_try_clause" 6 ["_law_kind", "_law_conditions", "_law_changes"] (spTryC K Cs CC) := by
  refine ⟨f, fd, ?_, m, F.kp, F.binds fun _ _ _ _ _ _ us hl => by obtain ⟨_, _, _, rfl⟩ := us3 hl; exact rfl⟩
  refine F.ok scTryC (fun vs H Q E h => ?_) (fun cdv A outer s H vs Q E hr h => ?_)
  · obtain ⟨a, b, c, d, e, g, rfl, _⟩ := h
    rfl
  · obtain ⟨kv, cv, dv, n, co, dos, rfl, tk, hc, hd, k⟩ := h
    refine ⟨_, pss_one (ps_try_as (i := 3) (Wout := fun _ _ _ _ => False) rfl rfl scTryC.nd rfl rfl ⟨rfl, by decide, .inl X.m⟩ takes0
        (fun W pn xe tk _ => pss_one (ps_ret (pe_makeS M.MK M.GI hr (by rfl) M.m M.bI (fun σ => passAt tk σ) (pa_cons (pv 0) (pa_cons (pv 1) (pa_cons (pv 2) pa_nil))))))
        (fun a oe cls d pn hz hf => pss_one (ps_ret (pe_ifExp (PW.pt (pw_and (pt_val (pe_callB (call_isEd (K := K) (D := CB) rfl X.EB hz hf) (by rfl) B.isinstance (by decide +kernel) (pa_cons (pv 3) (pa_cons (pe_glob (v := .ref CS) rfl X.mS rfl) pa_nil)))) (pw_and1 (pt_not (pt_val (pe_callB (call_isEd (K := K) (D := CB) rfl X.EB hz hf) (by rfl) B.isinstance (by decide +kernel) (pa_cons (pv 3) (pa_cons (pe_glob (v := .ref Bc) rfl X.mO rfl) pa_nil)))))))) (pe_tup (pa_cons (pe_xf X.XB X.n1 hz hf (pv 3)) (pa_cons (pe_xf X.XB n2 hz hf (pv 3)) pa_nil))) pe_int)))), ?_⟩
    refine ⟨_, rfl, _, rfl, _, rfl, fun x dx hx hdx ne => ?_⟩
    have s0 : Same H (upd (upd H dx (.own x)) x (.ins CC dx [])) := (sameUpd (Same.refl _) hdx).trans (sameUpd (Same.refl _) (by rw [upd_ne ne.symm]; exact hx))
    have sN : Same H (wo x (upd (upd H dx (.own x)) x (.ins CC dx []))) := fun b u e => wo_at (s0 _ _ e) (ne_of_none e hx)
    have so : ∀ H', Keep (upd (upd H dx (.own x)) x (.ins CC dx [])) H' x → Same H H' := fun H' kp b o hb => kp b o (s0 b o hb) (ne_of_none hb hx)
    refine ⟨x, dx, kv, cv, dv, n, co, dos, rfl, upd_same, tk.keep s0, hc.keep sN, hd.keep sN, ?_⟩
    cases e : clDue kv co dos with
    | none =>
      rw [e] at k
      exact fun z cs ds H' e1 e2 e3 kp cl => ⟨rfl, k x z cs ds H' e1 e2 e3 (so H' kp) hx cl⟩
    | some r =>
      obtain ⟨i, w'⟩ := r
      rw [e] at k
      refine fun d H' hd kp ed => ⟨true, X.tB, fun _ a' ha' => ?_, fun q => nomatch q⟩
      have s2 := so H' kp
      refine ⟨_, rfl, rfl, .inr ⟨d, _, rfl, ed⟩, .ref CS, .ref CS, true, rfl, fun u e => e, X.kS, _, rfl, iteT ?_⟩
      refine ⟨_, rfl, rfl, .inr ⟨d, _, rfl, ed⟩, .ref Bc, .ref Bc, false, rfl, fun u e => e, X.kO, _, rfl, iteT ?_⟩
      refine ⟨_, rfl, rfl, rfl, d, _, .int i, rfl, ed, rfl, _, rfl, rfl, rfl, d, _, .str w', rfl, ed, rfl, (by show 2 ≤ sizeLine; decide), fun t ht => ?_⟩
      exact k t _ (s2.trans (sameUpd (Same.refl _) ht)) (s2.free ht) upd_same
theorem scMore : FnScope ["_law_clause", "_law_condition", "_law_split", "e"] ["_law_clause", "_law_condition", "_law_split"] (defScope sLMore) := ⟨rfl, rfl, rfl, by decide +kernel, rfl, by decide +kernel, by decide +kernel⟩
theorem ok_more {f CC CB Bc CS gW gS : Addr} {fd fdW fdS : FuncData} {Cs : Pk → Addr} (F : Fun K "_law_more" "_law_more" sLMore f fd) (m : mg "_law_more" = some (.ref f)) (QX : QC K CC ["kind", "conditions", "changes"]) (MW : Meth K CC "with_condition" gW) (GW : FnOk P w K mg base (L2.CX P w) 6 gW fdW ["self", "condition"] (spWith K Cs CC CB)) (bW : Binds K fdW ["self", "condition"] [])
    (MS : Meth K CC "split" gS) (GS : FnOk P w K mg base (L2.CX P w) 7 gS fdS ["self", "condition"] (spSplit K Cs CC CB)) (bS : Binds K fdS ["self", "condition"] []) (X : ErX K mg "BadClause" CB CS Bc "BadCondition" "index") (n2 : PySem.W.findIn K (.ref CB) "what" = some none) : HasF P w K mg base "_law_more" 8 ["_law_clause", "_law_condition", "_law_split"] (spMore K Cs CC) := by
  refine ⟨f, fd, ?_, m, F.kp, F.binds fun _ _ _ _ _ _ us hl => by obtain ⟨_, _, _, rfl⟩ := us3 hl; exact rfl⟩
  refine F.ok scMore (fun vs H Q E h => ?_) (fun cdv A outer s H vs Q E hr h => ?_)
  · obtain ⟨a, b, c, d, e, g, i, rfl, _⟩ := h
    rfl
  · obtain ⟨a, y, sp, z, cs, ds, o, rfl, ha, hy, k⟩ := h
    have hr6 : Room 6 _ := hr.mono (by decide)
    refine ⟨_, pss_one (ps_try_as (i := 3) (Wout := fun _ _ _ _ => False) rfl rfl scMore.nd rfl rfl ⟨rfl, by decide, .inl X.m⟩ takes0
        (fun W pn xe tk _ => pss_one (ps_ret (pe_ifExp (pt_val (pv 2)) (pe_methW (pv 0) QX.cl MS GS hr bS (fun σ => passAt tk σ) (pa_cons (pv 1) pa_nil)) (pe_methW (pv 0) QX.cl MW GW hr6 bW (fun σ => passAt tk σ) (pa_cons (pv 1) pa_nil)))))
        (fun a oe cls d pn hz hf => pss_one (ps_ret (pe_tup (pa_cons (pe_xf X.XB X.n1 hz hf (pv 3)) (pa_cons (pe_xf X.XB n2 hz hf (pv 3)) (pa_cons pe_str pa_nil))))))), ?_⟩
    obtain ⟨dx, ca, da, xs, ys, h1, _, _, _, _⟩ := ha.ob
    have nW : (clFs z ca da).lookup (Str.ofString "with_condition") = none := clFs_no _ _ _ (by decide +kernel) (by decide +kernel) (by decide +kernel)
    have nS : (clFs z ca da).lookup (Str.ofString "split") = none := clFs_no _ _ _ (by decide +kernel) (by decide +kernel) (by decide +kernel)
    cases sp with
    | false =>
      refine ⟨_, rfl, _, rfl, iteF ?_⟩
      refine ⟨_, rfl, a, dx, _, rfl, h1, nW, _, rfl, a, y, z, cs, ds, o, rfl, ha, hy, ?_⟩
      cases e : condDue (some (cs.map some ++ [o])) with
      | some r =>
        obtain ⟨i, w'⟩ := r
        rw [e] at k
        exact fun d H' hd s2 ed => ⟨true, X.tB, fun _ a' ha' => ⟨_, rfl, rfl, rfl, d, _, .int i, rfl, ed, rfl, _, rfl, rfl, rfl, d, _, .str w', rfl, ed, rfl, (by show 3 ≤ sizeLine; decide), fun t ht => k t _ (s2.trans (sameUpd (Same.refl _) ht)) (s2.free ht) upd_same⟩, fun q => nomatch q⟩
      | none =>
        rw [e] at k
        exact fun b p H' eo hb s2 cb => (show ∀ b H', H b = none → Same H H' → ClA K Cs CC H' b z (cs ++ [p]) ds → Q (.ref b) H' from k p eo) b H' hb s2 cb
    | true =>
      refine ⟨_, rfl, _, rfl, iteT ?_⟩
      refine ⟨_, rfl, a, dx, _, rfl, h1, nS, _, rfl, a, y, z, cs, ds, o, rfl, ha, hy, ?_⟩
      cases e : condDue (some (cs.map some ++ [o])) with
      | some r =>
        obtain ⟨i, w'⟩ := r
        rw [e] at k
        exact fun d H' hd s2 ed => ⟨true, X.tB, fun _ a' ha' => ⟨_, rfl, rfl, rfl, d, _, .int i, rfl, ed, rfl, _, rfl, rfl, rfl, d, _, .str w', rfl, ed, rfl, (by show 3 ≤ sizeLine; decide), fun t ht => k t _ (s2.trans (sameUpd (Same.refl _) ht)) (s2.free ht) upd_same⟩, fun q => nomatch q⟩
      | none =>
        rw [e] at k
        intro p eo
        have k : (match condDue (some ((cs ++ [oppP p]).map some)) with
          | some (i, w) => Ref3 H i w Q
          | none => ∀ (t b c : Addr) H', Same H H' → H t = none → H' t = some (.tup [.ref b, .ref c]) → ClA K Cs CC H' b z (cs ++ [p]) ds → ClA K Cs CC H' c z (cs ++ [oppP p]) ds → Q (.ref t) H') := k p eo
        cases e2 : condDue (some ((cs ++ [oppP p]).map some)) with
        | some r =>
          obtain ⟨i, w'⟩ := r
          rw [e2] at k
          exact fun d H' hd s2 ed => ⟨true, X.tB, fun _ a' ha' => ⟨_, rfl, rfl, rfl, d, _, .int i, rfl, ed, rfl, _, rfl, rfl, rfl, d, _, .str w', rfl, ed, rfl, (by show 3 ≤ sizeLine; decide), fun t ht => k t _ (s2.trans (sameUpd (Same.refl _) ht)) (s2.free ht) upd_same⟩, fun q => nomatch q⟩
        | none =>
          rw [e2] at k
          exact k
end
end Kx

set_option maxHeartbeats 8000000
namespace Kx
open PySem L2
/-- the words and persons that rows name -/
def namedOf (ps : List Pc) : List V := ps.flatMap fun p => V.str p.1.word :: (whatOf p).toList
theorem namedOf_app (ps : List Pc) (p : Pc) : namedOf (ps ++ [p]) = namedOf ps ++ (V.str p.1.word :: (whatOf p).toList) := by
  unfold namedOf
  rw [List.flatMap_append]
  simp
theorem inV_app (x : V) (xs ys : List V) : inV x (xs ++ ys) = (inV x xs || inV x ys) := by
  unfold inV
  rw [List.any_append]
theorem eqV_strs (a b : Str) : eqV (.str a) (.str b) = decide (a = b) := by
  by_cases h : a = b
  · subst h; simp [eqV]
  · simp [eqV, h]
theorem what_good {p : Pc} (h : p.ok) {v : V} (e : whatOf p = some v) : ∃ z, v = .str z ∧ isLab z = true := by
  unfold whatOf at e
  by_cases hs : p.1.sh = .s
  · rw [if_pos hs] at e
    have h : p.1.sh.pw p.2 = none := h
    rw [hs] at h
    obtain ⟨x, y, e2⟩ := whole_of (s := .s) (good_args h).1
    rw [e2] at e h
    cases e
    have h : seatW x v = none := h
    unfold seatW at h
    cases q : seatV x with
    | false => rw [q] at h; cases h
    | true =>
      rw [q, if_pos rfl] at h
      cases q2 : labV v with
      | true => exact lab_str q2
      | false => rw [q2] at h; cases h
  · rw [if_neg hs] at e; cases e
/-- a word that is no kind of piece -/
theorem named_what {x : Str} (hx : ∀ k : Pk, ¬ k.word = x) : ∀ ps : List Pc, inV (.str x) (namedOf ps) = inV (.str x) (ps.filterMap whatOf)
  | [] => rfl
  | p :: ps => by
    have e : namedOf (p :: ps) = (V.str p.1.word :: (whatOf p).toList) ++ namedOf ps := rfl
    rw [e, inV_app, named_what hx ps]
    have e2 : inV (.str x) (V.str p.1.word :: (whatOf p).toList) = inV (.str x) (whatOf p).toList := by
      show (eqV (.str p.1.word) (.str x) || inV (.str x) (whatOf p).toList) = _
      rw [eqV_strs, decide_eq_false (hx p.1), Bool.false_or]
    rw [e2]
    cases e3 : whatOf p with
    | none =>
      rw [List.filterMap_cons, e3]
      rfl
    | some v =>
      rw [List.filterMap_cons, e3]
      show (eqV v (.str x) || false || _) = (eqV v (.str x) || _)
      rw [Bool.or_false]
      rfl
/-- a word of a kind of piece that nobody is called by -/
theorem named_kind {j : Pk} : ∀ {ps : List Pc}, (∀ p ∈ ps, p.ok ∧ whatOf p ≠ some (.str j.word)) → inV (.str j.word) (namedOf ps) = ps.any fun p => decide (p.1 = j)
  | [], _ => rfl
  | p :: ps, h => by
    have e : namedOf (p :: ps) = (V.str p.1.word :: (whatOf p).toList) ++ namedOf ps := rfl
    rw [e, inV_app, named_kind fun q m => h q (.tail _ m), List.any_cons]
    obtain ⟨ok, nw'⟩ := h p (.head _)
    have e2 : inV (.str j.word) (V.str p.1.word :: (whatOf p).toList) = decide (p.1 = j) := by
      show (eqV (.str p.1.word) (.str j.word) || inV (.str j.word) (whatOf p).toList) = _
      have e3 : inV (.str j.word) (whatOf p).toList = false := by
        cases e3 : whatOf p with
        | none => rfl
        | some v =>
          obtain ⟨z, rfl, _⟩ := what_good ok e3
          show (eqV (.str z) (.str j.word) || false) = false
          rw [eqV_strs, decide_eq_false fun q => nw' (by rw [e3, q])]
          rfl
      rw [e3, Bool.or_false, eqV_strs]
      exact decide_eq_decide.mpr ⟨fun q => word_inj q, fun q => by rw [q]⟩
    rw [e2]
theorem no_second : ∀ k : Pk, ¬ k.word = Str.ofString "second" := fun k => by cases k <;> decide +kernel
theorem no_first : ∀ k : Pk, ¬ k.word = Str.ofString "first" := fun k => by cases k <;> decide +kernel
theorem due_ar {ps : List Pc} (h : ∀ p ∈ ps, p.ok ∧ nice p) : (if (inV (.str "second") (namedOf ps) || (inV (.str "same") (namedOf ps) || inV (.str "apart") (namedOf ps))) then (2 : Int) else (if inV (.str "first") (namedOf ps) then 1 else 0)) = arOf ps := by
  unfold arOf
  rw [named_what no_second, named_what no_first, show inV (.str "same") (namedOf ps) = ps.any fun p => decide (p.1 = .same) from named_kind (j := .same) fun p m => ⟨(h p m).1, (h p m).2.1⟩,
    show inV (.str "apart") (namedOf ps) = ps.any fun p => decide (p.1 = .apart) from named_kind (j := .apart) fun p m => ⟨(h p m).1, (h p m).2.2⟩]
  have e : ((ps.any fun p => decide (p.1 = .same)) || (ps.any fun p => decide (p.1 = .apart))) = ps.any isPair := by
    clear h
    induction ps with
    | nil => rfl
    | cons p ps ih =>
      rw [List.any_cons, List.any_cons, List.any_cons, ← ih]
      unfold isPair
      cases decide (p.1 = .same) <;> cases decide (p.1 = .apart) <;> simp
  rw [e]
theorem named_len : ∀ ps : List Pc, (namedOf ps).length ≤ 2 * ps.length
  | [] => Nat.le_refl _
  | p :: ps => by
    have e : namedOf (p :: ps) = (V.str p.1.word :: (whatOf p).toList) ++ namedOf ps := rfl
    have ih := named_len ps
    rw [e, List.length_append, List.length_cons, List.length_cons]
    have : (whatOf p).toList.length ≤ 1 := by cases whatOf p <;> simp
    omega
theorem named_flat {ps : List Pc} (h : ∀ p ∈ ps, p.ok) : (namedOf ps).all flatV = true := List.all_eq_true.mpr fun v hv => by
  obtain ⟨p, hp, e⟩ := List.mem_flatMap.mp hv
  rcases List.mem_cons.mp e with rfl | e
  · rfl
  · have e2 : whatOf p = some v := by
      cases e3 : whatOf p with
      | none => rw [e3] at e; cases e
      | some u => rw [e3] at e; rw [List.mem_singleton.mp e]
    obtain ⟨z, rfl, _⟩ := what_good (h p hp) e2
    rfl
theorem eqv_rows {ps : List Pc} (h : ∀ p ∈ ps, p.ok) : PyData.eqv (.list (ps.map dRow)) (.list (ps.map dRow)) = true := by
  obtain ⟨a, _⟩ := lay_map (f := dRow) (n := 1) (xs := ps) fun p m => lay_row (h p m)
  exact SeqAt.eqv_refl _ a
def spCIs (K : PySem.W.Frag) (Cs : Pk → Addr) (CC : Addr) : Sp := fun vs H Q _ => ∃ (a pa : Addr) (z : Str) (cs ds : List Pc), vs = [.ref a, .ref pa] ∧ ClA K Cs CC H a z cs ds ∧ PartsA H pa (.str z) (cs.map some) (ds.map some) ∧ ∀ H', Same H H' → Q (.bl true) H'
section
variable {P : Program} {w : World} {K : PySem.W.Frag} {mg : Str → Option Value} {base : Heap}
abbrev nCI : List Str := ["_law_told", "_law_parts", "_law_named", "_law_row_here", "_law_due", "_law_one_here", "_law_k"]
theorem scCI : FnScope nCI ["_law_told", "_law_parts"] (defScope sLClauseIs) := ⟨rfl, rfl, rfl, by decide +kernel, rfl, by decide +kernel, by decide +kernel⟩
theorem ok_cis {f CC pA gA : Addr} {fd fdA : FuncData} {Cs : Pk → Addr} (F : Fun K "_law_clause_is" "_law_clause_is" sLClauseIs f fd) (m : mg "_law_clause_is" = some (.ref f)) (T : Bl mg) (B : Bm mg) (QX : QC K CC ["kind", "conditions", "changes"]) (mC : mg "Clause" = some (.ref CC)) (PA : PropOf K CC "arity" pA gA) (GA : FnOk P w K mg base CX0 1 gA fdA ["self"] (spAr K Cs CC)) (bA : Binds K fdA ["self"] [])
    (Rw : HasF P w K mg base "_law_row" 2 ["_law_piece_here"] (spRow Cs)) (W : HasF P w K mg base "_law_whole" 1 ["_law_thing_here"] spLWhole) : HasF P w K mg base "_law_clause_is" 3 ["_law_told", "_law_parts"] (spCIs K Cs CC) := by
  refine ⟨f, fd, ?_, m, F.kp, F.binds fun _ _ _ _ _ _ us hl => by obtain ⟨_, _, rfl⟩ := us2 hl; exact rfl⟩
  obtain ⟨f1, fd1, Rw⟩ := Rw; obtain ⟨f2, fd2, W⟩ := W
  refine F.ok scCI (fun vs H Q E h => ?_) (fun cdv A outer s H vs Q E hr h => ?_)
  · obtain ⟨a, b, c, d, e, rfl, _⟩ := h
    rfl
  · obtain ⟨a, pa, z, cs, ds, rfl, hcl, hpa, k⟩ := h
    have hr1 : Room 1 _ := hr.mono (by decide)
    refine ⟨_, (C8.pss_cut (ps_if (PW.pt (pw_or (pt_not (pt_val (pe_callB call_isi (by rfl) B.isinstance (by decide +kernel) (pa_cons (pv 0) (pa_cons (pe_glob (v := .ref CC) rfl mC rfl) pa_nil))))) (pw_or (pt_cmpR op_ne (pe_fld (pv 0) rfl) (pe_ix ix_list (pv 1) pe_int (fun _ _ => rfl)) (nomark _)) (pw_or1 (pt_not (pt_val (pe_callB call_isi (by rfl) B.isinstance (by decide +kernel) (pa_cons (pe_fld (pv 0) rfl) (pa_cons (pe_bltn (v := .ty "tuple") (by rfl) B.tuple (by decide +kernel) rfl) pa_nil))))))))) (pss_one (ps_ret pe_bl)) pss_nil)
    (C8.pss_cut (ps_if (PW.pt (pw_or (pt_cmpR (op_neD hr.units) (pe_lc (own := [("_law_one_here", 5)]) (g := gName 5) (tt := tYes) (te := tCall (spRow Cs) [] E0 (tCons (tVar 5) tNil)) (by rfl) scCI.nd (pi_seq (pe_fld (pv 0) rfl)) (blkOk_by (own := [("_law_one_here", 5)]) (N := nCI) (sc := defScope sLClauseIs) (by decide +kernel)) (fun _ _ _ _ _ => pg_name (i := 5) scCI.nd rfl (Or.inl rfl)) (fun _ _ _ _ _ => pts_nil) (fun _ _ _ _ _ => (pe_call Rw.G hr (by rfl) Rw.m Rw.kp Rw.b .nil pass0 (pa_cons (pv 5) pa_nil)))) (pe_ix ix_list (pv 1) pe_int (fun _ _ => rfl)) (nomark _)) (pw_or1 (pt_cmpR (op_neD hr.units) (pe_lc (own := [("_law_one_here", 5)]) (g := gName 5) (tt := tYes) (te := tCall (spRow Cs) [] E0 (tCons (tVar 5) tNil)) (by rfl) scCI.nd (pi_seq (pe_fld (pv 0) rfl)) (blkOk_by (own := [("_law_one_here", 5)]) (N := nCI) (sc := defScope sLClauseIs) (by decide +kernel)) (fun _ _ _ _ _ => pg_name (i := 5) scCI.nd rfl (Or.inl rfl)) (fun _ _ _ _ _ => pts_nil) (fun _ _ _ _ _ => (pe_call Rw.G hr (by rfl) Rw.m Rw.kp Rw.b .nil pass0 (pa_cons (pv 5) pa_nil)))) (pe_ix ix_list (pv 1) pe_int (fun _ _ => rfl)) (nomark _))))) (pss_one (ps_ret pe_bl)) pss_nil)
    (C8.pss_cut (ps_set (i := 2) scCI.nd rfl (Or.inl rfl) (pe_lst pa_nil))
    (C8.pss_cut (ps_for PassesOwn.never rfl (pi_list (pe_op op_cat (pe_ix ix_list (pv 1) pe_int (fun _ _ => rfl)) (pe_ix ix_list (pv 1) pe_int (fun _ _ => rfl)))) (pg_name (i := 3) scCI.nd rfl (.inr rfl))
        (pss_one (ps_set (i := 2) scCI.nd rfl (Or.inl rfl) (pe_op op_cat (pe_op op_cat (pv 2) (pe_lst (pa_cons (pe_ix ix_tup (pv 3) pe_int (fun _ _ => rfl)) pa_nil))) (pe_lc (own := [("_law_k", 6)]) (g := gName 6) (tt := tYes) (te := tOp (rIxT K) (tVar 3) (tC (.int 2))) (by rfl) scCI.nd (pi_range1 (by rfl) T.range (pa_cons (pe_callTy call_int1 (by rfl) T.int (by decide +kernel) (pa_cons (pe_cmpR op_in_seq (pe_ix ix_tup (pv 3) pe_int (fun _ _ => rfl)) (pe_tup (pa_cons pe_str (pa_cons pe_str (pa_cons pe_str pa_nil)))) (by rfl)) pa_nil)) pa_nil)) (blkOk_by (own := [("_law_k", 6)]) (N := nCI) (sc := defScope sLClauseIs) (by decide +kernel)) (fun _ _ _ _ _ => pg_name (i := 6) scCI.nd rfl (Or.inl rfl)) (fun _ _ _ _ _ => pts_nil) (fun _ _ _ _ _ => pe_ix ix_tup (pv 3) pe_int (fun _ _ => rfl)))))))
    (C8.pss_cut (ps_set (i := 4) scCI.nd rfl (Or.inl rfl) (pe_ifExp (PW.pt (pw_or (pt_cmpR op_in_seq pe_str (pv 2) (by rfl)) (pw_or (pt_cmpR op_in_seq pe_str (pv 2) (by rfl)) (pw_or1 (pt_cmpR op_in_seq pe_str (pv 2) (by rfl)))))) pe_int (pe_callTy call_int1 (by rfl) T.int (by decide +kernel) (pa_cons (pe_cmpR op_in_seq pe_str (pv 2) (by rfl)) pa_nil))))
    (pss_one (ps_ret (pe_and (pe_callB call_isi (by rfl) B.isinstance (by decide +kernel) (pa_cons (pe_fld (pv 0) rfl) (pa_cons (pe_bltn (v := .ty "tuple") (by rfl) B.tuple (by decide +kernel) rfl) pa_nil))) (pe_and (pe_cmpR op_eq (pe_prop (pv 0) QX.cl PA GA hr bA .nil pass0 (by rfl)) (pv 4) (nomark _)) (pe_one (pe_call W.G hr1 (by rfl) W.m W.kp W.b .nil pass0 (pa_cons (pe_prop (pv 0) QX.cl PA GA hr bA .nil pass0 (by rfl)) pa_nil)))))))))))), ?_⟩
    obtain ⟨dx, ca, da, xs, ys, h1, h2, h3, h4, h5⟩ := hcl.ob
    obtain ⟨n, cl, dl, us, vs, hp, tk, hc, pu, hd, pv_⟩ := hpa.ob
    have oc : ∀ p ∈ cs, p.ok := rows_ok pu
    have od : ∀ p ∈ ds, p.ok := rows_ok pv_
    have lc1 : cs.length ≤ 7 := by have := hpa.l1; simpa using this
    have ld1 : ds.length ≤ 9 := by have := hpa.l2; simpa using this
    have lxs := Paired.length h4
    have lys := Paired.length h5
    have lus : us.length = cs.length := by rw [Paired.length pu, List.length_map]
    have lvs : vs.length = ds.length := by rw [Paired.length pv_, List.length_map]
    -- the kind
    refine ⟨fun σ H1 => σ = [some (.ref a), some (.ref pa), none, none, none, none, none] ∧ H = H1, ?_, ?_⟩
    · refine ⟨_, rfl, _, _, _, _, _, rfl, .own _, QX.ty h1, kit_self, _, rfl, iteF ?_⟩
      refine ⟨_, rfl, a, _, dx, _, _, rfl, h1, QX.cl, QX.no _ (.head _), clFs_k _ _ _, _, rfl, pa, _, _, _, rfl, rfl, SqL.of hp, atI0 _ _, rfl, _, rfl, ?_⟩
      rw [decide_eq_true rfl]
      refine iteF ⟨_, rfl, a, _, dx, _, _, rfl, h1, QX.cl, QX.no _ (.tail _ (.head _)), clFs_c _ _ _, _, _, _, _, _, rfl, .ty _, h2.ty, kit_ty (kit_tuple (by decide)), _, rfl, ?_⟩
      exact iteF ⟨rfl, rfl⟩
    rintro σ _ ⟨rfl, rfl⟩
    -- the rows
    refine ⟨fun σ H1 => σ = [some (.ref a), some (.ref pa), none, none, none, none, none] ∧ Same H H1, ?_, ?_⟩
    · refine ⟨_, rfl, a, _, dx, _, _, rfl, h1, QX.cl, QX.no _ (.tail _ (.head _)), clFs_c _ _ _, ca, rfl, lc_pure (g := gName 5) (fun j y H' => ∀ p, cs[j]? = some p → ∃ t, y = .ref t ∧ RowA H' t p) (fun j y H' H'' g s p e => (g p e).imp fun t q => ⟨q.1, s _ _ q.2⟩) (h2.keep (Same.refl _)).seq (Same.refl _) (by omega) (fun D' j x H8 kk hj hD s8 ⟨acc, hacc⟩ hk => ?_) (fun D' ts H8 hD s8 hd8 tl hts => ?_) (fun x σ H Q Q' q z => q _ _ z)⟩
      · obtain ⟨p, hp', a', rfl, ha'⟩ := Paired.at h4 hj
        refine ⟨rfl, _, rfl, a', p, rfl, ha'.keep s8, fun t H9 ht s9 hr9 => hk (.ref t) H9 s9 fun p' e => ?_⟩
        rw [hp'] at e
        cases e
        exact ⟨t, rfl, wo_at hr9 fun q => by rw [q, hacc] at ht; cases ht⟩
      · have pr1 : DpAll K H8 ts (cs.map dRow) := dpAll_of (F := fun y p => (∃ t, y = V.ref t ∧ RowA H8 t p) ∧ p.ok) (fun y p q => by
          obtain ⟨⟨t, rfl, hr'⟩, ok⟩ := q
          exact hr'.dp ok) (pr_of (by omega) fun j y p e1 e2 => ⟨(hts j y e1 p e2).imp fun t q => ⟨q.1, wo_same _ _ q.2⟩, oc p (List.mem_iff_getElem?.mpr ⟨j, e2⟩)⟩)
        refine ⟨_, rfl, pa, _, _, _, rfl, rfl, SqL.of (s8 _ _ hp), atI1 _ _ _, .list (cs.map dRow), .list (cs.map dRow), .lst (SqL.of hd8) pr1, .lst (SqL.of (s8 _ _ hc)) (rows_dp (pr_imp pu fun _ _ q => RowV.keep q s8)), shaped_rows oc, shaped_rows oc, _, rfl, ?_⟩
        rw [eqv_rows oc]
        refine iteF ?_
        refine ⟨_, rfl, a, _, dx, _, _, rfl, s8 _ _ h1, QX.cl, QX.no _ (.tail _ (.tail _ (.head _))), clFs_h _ _ _, da, rfl, lc_pure (g := gName 5) (fun j y H' => ∀ p, ds[j]? = some p → ∃ t, y = .ref t ∧ RowA H' t p) (fun j y H' H'' g s p e => (g p e).imp fun t q => ⟨q.1, s _ _ q.2⟩) (h3.keep s8).seq (Same.refl _) (by omega) (fun D2 j x H7 kk hj hD2 s7 ⟨acc, hacc⟩ hk => ?_) (fun D2 ts2 H7 hD2 s7 hd7 tl2 hts2 => ?_) (fun x σ H Q Q' q z => q _ _ z)⟩
        · obtain ⟨p, hp', a', rfl, ha'⟩ := Paired.at h5 hj
          refine ⟨rfl, _, rfl, a', p, rfl, ha'.keep (s8.trans s7), fun t H9 ht s9 hr9 => hk (.ref t) H9 s9 fun p' e => ?_⟩
          rw [hp'] at e
          cases e
          exact ⟨t, rfl, wo_at hr9 fun q => by rw [q, hacc] at ht; cases ht⟩
        · have s07 := s8.trans s7
          have pr2 : DpAll K H7 ts2 (ds.map dRow) := dpAll_of (F := fun y p => (∃ t, y = V.ref t ∧ RowA H7 t p) ∧ p.ok) (fun y p q => by
            obtain ⟨⟨t, rfl, hr'⟩, ok⟩ := q
            exact hr'.dp ok) (pr_of (by omega) fun j y p e1 e2 => ⟨(hts2 j y e1 p e2).imp fun t q => ⟨q.1, wo_same _ _ q.2⟩, od p (List.mem_iff_getElem?.mpr ⟨j, e2⟩)⟩)
          refine ⟨_, rfl, pa, _, _, _, rfl, rfl, SqL.of (s07 _ _ hp), atI2 _ _ _ _, .list (ds.map dRow), .list (ds.map dRow), .lst (SqL.of hd7) pr2, .lst (SqL.of (s07 _ _ hd)) (rows_dp (pr_imp pv_ fun _ _ q => RowV.keep q s07)), shaped_rows od, shaped_rows od, _, rfl, ?_⟩
          rw [eqv_rows od]
          exact iteF ⟨rfl, s07⟩
    rintro σ H1 ⟨rfl, s1⟩
    -- what is named
    refine ⟨fun σ H2 => ∃ nl, σ = [some (.ref a), some (.ref pa), some (.ref nl), none, none, none, none] ∧ Same H H2 ∧ H2 nl = some (.lst []), ?_, ?_⟩
    · exact ⟨Nat.zero_le _, fun nl hnl => ⟨nl, rfl, sameUpd s1 hnl, upd_same⟩⟩
    rintro σ H2 ⟨nl, rfl, s2, hnl⟩
    refine ⟨fun σ H3 => ∃ (nl : Addr) (v3 : Option V), σ = [some (.ref a), some (.ref pa), some (.ref nl), v3, none, none, none] ∧ Same H H3 ∧ H3 nl = some (.lst (namedOf (cs ++ ds))), ?_, ?_⟩
    · refine ⟨_, rfl, pa, _, _, _, rfl, rfl, SqL.of (s2 _ _ hp), atI1 _ _ _, _, rfl, pa, _, _, _, rfl, rfl, SqL.of (s2 _ _ hp), atI2 _ _ _ _, ?_⟩
      refine ⟨cl, dl, us, vs, rfl, rfl, s2 _ _ hc, s2 _ _ hd, Nat.le_of_lt (line2 (by omega)), fun lR hR => ?_⟩
      have sR := sameUpd (o := .lst (us ++ vs)) s2 hR
      have hnlR : upd H2 lR (.lst (us ++ vs)) nl = some (.lst []) := by rw [upd_ne (ne_of_none hnl hR)]; exact hnl
      have pr : Paired (RowV H) (us ++ vs) ((cs ++ ds).map some) := by rw [List.map_append]; exact paired_cat pu pv_
      have ll : (us ++ vs).length = (cs ++ ds).length := by rw [Paired.length pr, List.length_map]
      have ll16 : (cs ++ ds).length ≤ 16 := by rw [List.length_append]; omega
      refine ⟨lR, rfl, ⟨_, SqL.of upd_same⟩, for_list (K := K) (a := lR) (xs := us ++ vs) (fun i σ H3 => ∃ (nl : Addr) (v3 : Option V), σ = [some (.ref a), some (.ref pa), some (.ref nl), v3, none, none, none] ∧ Same H H3 ∧ H3 lR = some (.lst (us ++ vs)) ∧ H3 nl = some (.lst (namedOf ((cs ++ ds).take i))))
        ⟨nl, none, rfl, sR, upd_same, hnlR⟩ (fun i σ H3 _ ⟨_, _, _, _, h, _⟩ => SqL.of h) ?_ ?_⟩
      · rintro i x σ H3 hi ⟨nl, v3, rfl, s3, hl3, hn3⟩
        obtain ⟨p, hp', t, rfl, hrow, ok, nc⟩ := Paired.at (rows_pcs pr) hi
        have lt : i < (cs ++ ds).length := (List.getElem?_eq_some_iff.mp hp').1
        have ln := named_len ((cs ++ ds).take i)
        rw [List.length_take] at ln
        have row : ∀ {H' : Hp}, Same H H' → SqT K H' t (.str p.1.word :: p.2) := fun s => SqT.of (s _ _ hrow)
        have wl : (whatOf p).toList.length ≤ 1 := by cases whatOf p <;> simp
        refine ⟨_, rfl, _, rfl, t, _, _, _, rfl, rfl, row s3, atI0 _ _, (by show 1 ≤ sizeLine; decide), fun l1 h1' => ?_⟩
        have s4 := sameUpd (o := .lst [V.str p.1.word]) (Same.refl H3) h1'
        refine ⟨nl, l1, _, _, rfl, rfl, s4 _ _ hn3, upd_same, Nat.le_of_lt (line2 (by simp; omega)), fun l2 h2' => ?_⟩
        have s5 := sameUpd (o := .lst (namedOf ((cs ++ ds).take i) ++ [V.str p.1.word])) s4 h2'
        refine ⟨_, rfl, t, _, _, _, rfl, rfl, row (s3.trans s5), atI0 _ _, (by show 3 ≤ sizeLine; decide), fun t3 h3' => ?_⟩
        have s6 := sameUpd (o := .tup [V.str "is", V.str "isnot", V.str "put"]) (Same.refl _) h3'
        have s56 := s5.trans s6
        refine ⟨t3, _, rfl, .inr (SqT.of upd_same), rfl, by decide, ?_⟩
        rw [if_neg Bool.false_ne_true, in_s]
        refine .inr ⟨_, rfl, ?_⟩
        have hl2 := s6 _ _ (upd_same (H := upd H3 l1 (.lst [V.str p.1.word])) (a := l2))
        have wn : ∀ j, j ≤ (if decide (p.1.sh = .s) = true then (1 : Int) else 0).toNat → j ≤ 1 := fun j hj => by
          split at hj
          · exact hj
          · exact Nat.le_trans hj (Nat.zero_le _)
        refine ⟨_, rfl, (by split <;> omega), (by split <;> omega), fun D' hD => lc_range (n := (if decide (p.1.sh = .s) = true then (1 : Int) else 0).toNat) (fun j H7 => Same (upd (upd (upd H3 l1 (.lst [V.str p.1.word])) l2 (.lst (namedOf ((cs ++ ds).take i) ++ [V.str p.1.word]))) t3 (.tup [V.str "is", V.str "isnot", V.str "put"])) H7 ∧ H7 D' = some (.lst (List.replicate j ((whatOf p).getD .non))))
          ⟨sameUpd (Same.refl _) hD, upd_same⟩ ?_ ?_⟩
        · rintro j H7 hj ⟨s7, hd7⟩
          have hs : p.1.sh = .s := by
            by_cases e : p.1.sh = .s
            · exact e
            · rw [if_neg (by rw [decide_eq_false e]; exact Bool.false_ne_true)] at hj
              exact absurd hj (Nat.not_lt_zero _)
          have ok' : p.1.sh.pw p.2 = none := ok
          rw [hs] at ok'
          obtain ⟨u, v, e2⟩ := whole_of (s := .s) (good_args ok').1
          have ew : whatOf p = some v := by unfold whatOf; rw [if_pos hs, e2]; rfl
          have hj1 := wn j (Nat.le_of_lt hj)
          refine ⟨rfl, ?_⟩
          refine ⟨_, rfl, t, .str p.1.word :: p.2, 2, v, rfl, rfl, row ((s3.trans s56).trans s7), by rw [e2]; exact atI2 _ _ _ _, _, hd7, line2 (by rw [List.length_replicate]; omega), woD hD s7 (Same.refl _), ?_⟩
          rw [upd_same, ew, List.replicate_succ']
          rfl
        · rintro H7 ⟨s7, hd7⟩
          have e7 : List.replicate (if decide (p.1.sh = .s) = true then (1 : Int) else 0).toNat ((whatOf p).getD .non) = (whatOf p).toList := by
            by_cases e : p.1.sh = .s
            · have ok' : p.1.sh.pw p.2 = none := ok
              rw [e] at ok'
              obtain ⟨u, v, e2⟩ := whole_of (s := .s) (good_args ok').1
              have ew : whatOf p = some v := by unfold whatOf; rw [if_pos e, e2]; rfl
              rw [if_pos (decide_eq_true e), ew]
              rfl
            · rw [if_neg (by rw [decide_eq_false e]; exact Bool.false_ne_true), show whatOf p = none from if_neg e]
              rfl
          rw [e7] at hd7
          refine ⟨l2, D', _, _, rfl, rfl, s7 _ _ hl2, hd7, Nat.le_of_lt (line2 (by simp; omega)), fun l4 h4' => ?_⟩
          have s8 := sameUpd (o := .lst (namedOf ((cs ++ ds).take i) ++ [V.str p.1.word] ++ (whatOf p).toList)) ((s3.trans s56).trans s7) h4'
          refine ⟨l4, _, rfl, s8, (sameUpd (o := .lst (namedOf ((cs ++ ds).take i) ++ [V.str p.1.word] ++ (whatOf p).toList)) (s56.trans s7) h4') _ _ hl3, ?_⟩
          rw [upd_same, List.take_add_one, hp']
          show _ = some (HO.lst (namedOf ((cs ++ ds).take i ++ [p])))
          rw [namedOf_app, List.append_assoc]
          rfl
      · rintro σ H3 ⟨nl, v3, rfl, s3, _, hn3⟩
        rw [ll, List.take_length] at hn3
        exact ⟨nl, v3, rfl, s3, hn3⟩
    rintro σ H3 ⟨nl, v3, rfl, s3, hn3⟩
    have oa : ∀ p ∈ cs ++ ds, p.ok ∧ nice p := fun p hp' => by
      have both : ∀ {ws : List V} {qs : List Pc}, Paired (RowV H) ws (qs.map some) → ∀ q ∈ qs, q.ok ∧ nice q := fun h q hq => by
        obtain ⟨j, hj⟩ := List.mem_iff_getElem?.mp hq
        obtain ⟨x, _, _, _, _, ok⟩ := Paired.at2 (rows_pcs h) hj
        exact ok
      rcases List.mem_append.mp hp' with m | m
      · exact both pu p m
      · exact both pv_ p m
    have fl := named_flat fun p m => (oa p m).1
    have ar := due_ar oa
    -- how many persons
    refine ⟨fun σ H4 => σ = [some (.ref a), some (.ref pa), some (.ref nl), v3, some (.int (arOf (cs ++ ds))), none, none] ∧ H3 = H4, ?_, ?_⟩
    · have fin : ∀ b2 bs ba b1, inV (.str (Str.ofString "second")) (namedOf (cs ++ ds)) = b2 → inV (.str (Str.ofString "same")) (namedOf (cs ++ ds)) = bs → inV (.str (Str.ofString "apart")) (namedOf (cs ++ ds)) = ba → inV (.str (Str.ofString "first")) (namedOf (cs ++ ds)) = b1 → (if (b2 || (bs || ba)) = true then (2 : Int) else if b1 = true then 1 else 0) = arOf (cs ++ ds) := fun b2 bs ba b1 e2 es ea e1 => by rw [← ar, e2, es, ea, e1]
      refine ⟨_, rfl, nl, _, rfl, .inl (SqL.of hn3), rfl, fl, _, rfl, ?_⟩
      cases e2 : inV (.str (Str.ofString "second")) (namedOf (cs ++ ds)) with
      | true =>
        refine iteT ⟨?_, rfl⟩
        rw [← fin true _ _ _ e2 rfl rfl rfl]
        rfl
      | false =>
        refine iteF ⟨_, rfl, nl, _, rfl, .inl (SqL.of hn3), rfl, fl, _, rfl, ?_⟩
        cases es : inV (.str (Str.ofString "same")) (namedOf (cs ++ ds)) with
        | true =>
          refine iteT ⟨?_, rfl⟩
          rw [← fin false true _ _ e2 es rfl rfl]
          rfl
        | false =>
          refine iteF ⟨_, rfl, nl, _, rfl, .inl (SqL.of hn3), rfl, fl, _, rfl, ?_⟩
          cases ea : inV (.str (Str.ofString "apart")) (namedOf (cs ++ ds)) with
          | true =>
            refine iteT ⟨?_, rfl⟩
            rw [← fin false false true _ e2 es ea rfl]
            rfl
          | false =>
            refine iteF ⟨_, rfl, nl, _, rfl, .inl (SqL.of hn3), rfl, fl, .inr ⟨_, rfl, ?_, rfl⟩⟩
            rw [← fin false false false _ e2 es ea rfl]
            rfl
    rintro σ _ ⟨rfl, rfl⟩
    have hcl3 := hcl.keep s3
    refine ⟨_, rfl, a, _, dx, _, _, rfl, s3 _ _ h1, QX.cl, QX.no _ (.tail _ (.tail _ (.head _))), clFs_h _ _ _, _, _, _, _, _, rfl, .ty _, (h3.keep s3).ty, kit_ty (kit_tuple (by decide)), _, rfl, iteT ?_⟩
    refine ⟨_, rfl, a, dx, _, rfl, s3 _ _ h1, a, z, cs, ds, rfl, hcl3, fun H4 s4 => ⟨_, rfl, rfl, _, rfl, ?_⟩⟩
    rw [decide_eq_true rfl]
    refine iteT ⟨_, rfl, a, dx, _, rfl, (s3.trans s4) _ _ h1, a, z, cs, ds, rfl, hcl3.keep s4, fun H5 s5 => ?_⟩
    exact ⟨.int _, "int", rfl, .int _, k H5 ((s3.trans s4).trans s5)⟩
end
end Kx

set_option maxHeartbeats 16000000
namespace Kx
open PySem L2
theorem condScan_app : ∀ {ps seen : List Pc} {i : Nat} {rest : List (Option Pc)}, condScan seen i (ps.map some) = none → condScan seen i (ps.map some ++ rest) = condScan (seen ++ ps) (i + ps.length) rest
  | [], seen, i, rest, _ => by simp
  | p :: ps, seen, i, rest, h => by
    have h : (if p.1.cond then (if decide (p ∈ seen) then some (i, Str.ofString "double") else condScan (seen ++ [p]) (i + 1) (ps.map some)) else some (i, Str.ofString "condition")) = none := h
    show (if p.1.cond then (if decide (p ∈ seen) then some (i, Str.ofString "double") else condScan (seen ++ [p]) (i + 1) (ps.map some ++ rest)) else some (i, Str.ofString "condition")) = _
    cases e : p.1.cond with
    | false => rw [e] at h; cases h
    | true =>
      rw [e, if_pos rfl] at h
      rw [if_pos rfl]
      by_cases e2 : decide (p ∈ seen) = true
      · rw [if_pos e2] at h; cases h
      · rw [if_neg e2] at h
        rw [if_neg e2, condScan_app h, List.append_assoc, List.length_cons]
        congr 1
        omega
theorem condScan_of {cs : List Pc} (h : condDue (some (cs.map some)) = none) : cs.length ≤ 6 ∧ condScan [] 0 (cs.map some) = none := by
  have h : (if (cs.map some).length ≤ 6 then condScan [] 0 (cs.map some) else some (0, Str.ofString "conditions")) = none := h
  by_cases l : (cs.map some).length ≤ 6
  · rw [if_pos l] at h
    exact ⟨by simpa using l, h⟩
  · rw [if_neg l] at h; cases h
/-- a thing that is no condition, the last -/
theorem odd_due {cs : List Pc} {o : Option Pc} (h : condDue (some (cs.map some)) = none) (ho : ∀ p, o = some p → p.1.cond = false) : condDue (some (cs.map some ++ [o])) = if cs.length = 6 then some (0, Str.ofString "conditions") else some (cs.length, Str.ofString "condition") := by
  obtain ⟨l, sc⟩ := condScan_of h
  show (if (cs.map some ++ [o]).length ≤ 6 then condScan [] 0 (cs.map some ++ [o]) else some (0, Str.ofString "conditions")) = _
  have ll : (cs.map some ++ [o]).length = cs.length + 1 := by simp
  rw [ll]
  by_cases e : cs.length = 6
  · rw [if_neg (by omega), if_pos e]
  · rw [if_pos (by omega), if_neg e, condScan_app sc]
    cases o with
    | none => show some (0 + cs.length, Str.ofString "condition") = _; rw [Nat.zero_add]
    | some p =>
      show (if p.1.cond = true then _ else some (0 + cs.length, Str.ofString "condition")) = _
      rw [ho p rfl, if_neg Bool.false_ne_true, Nat.zero_add]
theorem condScan_word : ∀ {os : List (Option Pc)} {seen : List Pc} {i j : Nat} {w : Str}, condScan seen i os = some (j, w) → PyData.strOk w = true
  | [], _, _, _, _, h => nomatch h
  | none :: _, _, _, _, _, h => by cases h; decide +kernel
  | some p :: os, seen, i, j, w, h => by
    have h : (if p.1.cond then (if decide (p ∈ seen) then some (i, Str.ofString "double") else condScan (seen ++ [p]) (i + 1) os) else some (i, Str.ofString "condition")) = some (j, w) := h
    cases e : p.1.cond with
    | false => rw [e] at h; cases h; decide +kernel
    | true =>
      rw [e, if_pos rfl] at h
      by_cases e2 : decide (p ∈ seen) = true
      · rw [if_pos e2] at h; cases h; decide +kernel
      · rw [if_neg e2] at h
        exact condScan_word h
theorem condDue_word {r : Option (List (Option Pc))} {j : Nat} {w : Str} (h : condDue r = some (j, w)) : PyData.strOk w = true := by
  cases r with
  | none => cases h; decide +kernel
  | some os =>
    have h : (if os.length ≤ 6 then condScan [] 0 os else some (0, Str.ofString "conditions")) = some (j, w) := h
    split at h
    · exact condScan_word h
    · cases h; decide +kernel
def ref3D (i : Nat) (w : Str) : PyData := .tuple [.int i, .str w, .str "refused"]
theorem lay_ref3 {i : Nat} {w : Str} (h : PyData.strOk w = true) : PyData.canLay0 (ref3D i w) = true := by
  show (true && (PyData.canLay0 (.str w) && (PyData.canLay0 (.str "refused") && true))) = true
  rw [show PyData.canLay0 (.str w) = true from h]
  decide +kernel
theorem shaped_ref3 {i : Nat} {w : Str} (h : PyData.strOk w = true) : SeqAt.shaped (ref3D i w) = true := by
  unfold SeqAt.shaped
  rw [lay_ref3 h]
  exact decide_eq_true (by show max 0 (max 0 (max 0 0)) + 1 ≤ 64; decide)
theorem eqv_ref3 {i : Nat} {w : Str} (h : PyData.strOk w = true) : PyData.eqv (ref3D i w) (ref3D i w) = true := SeqAt.eqv_refl _ (lay_ref3 h)
theorem dp_ref3 {K : PySem.W.Frag} {H : Hp} {t : Addr} {i : Nat} {w : Str} (h : H t = some (.tup [.int i, .str w, .str "refused"])) : Dp K H (.ref t) (ref3D i w) := .tup (SqT.of h) (.cons (.int _) (.cons (.str _) (.cons (.str _) .nil)))
theorem spI_ok {Cs : Pk → Addr} {CB : Addr} {k : Pk} {H : Hp} {args : List V} {x dx : Addr} (hx : H x = none) (hdx : H dx = none) (ne : dx ≠ x) (ok : k.sh.pw args = none) {Q : VK} {E : XK} (h : ∀ H', Same H H' → PcA Cs H' x k args → Q .non H') :
    spI k.sh (Cs k) CB (.ref x :: args) (upd (upd H dx (.own x)) x (.ins (Cs k) dx [])) Q E := by
  have s0 : Same H (upd (upd H dx (.own x)) x (.ins (Cs k) dx [])) := (sameUpd (Same.refl _) hdx).trans (sameUpd (Same.refl _) (by rw [upd_ne ne.symm]; exact hx))
  refine ⟨x, dx, args, rfl, (good_args ok).1, upd_same, good_things ok, ?_⟩
  rw [ok]
  exact fun H' kp e2 => h H' (fun b o e => kp b o (s0 b o e) (ne_of_none e hx)) ⟨⟨dx, e2⟩, ok⟩
theorem hand_lst {H : Hp} {p q : Addr} (h : HandAt H p q) : ∃ xs, H p = some (.lst xs) := by
  obtain ⟨cs, a, b, c, h1, _⟩ := h
  exact ⟨_, h1⟩
theorem off_tup {H : Hp} {p q t : Addr} {xs : List V} (h : HandAt H p q) (ht : H t = some (.tup xs)) : wo p H t = some (.tup xs) := by
  obtain ⟨ys, e⟩ := hand_lst h
  exact wo_at ht fun z => by rw [z, e] at ht; cases ht
theorem off_ins {H : Hp} {p q t C dx : Addr} {fs : List (Str × V)} (h : HandAt H p q) (ht : H t = some (.ins C dx fs)) : wo p H t = some (.ins C dx fs) := by
  obtain ⟨ys, e⟩ := hand_lst h
  exact wo_at ht fun z => by rw [z, e] at ht; cases ht
theorem PcA.off {Cs : Pk → Addr} {H : Hp} {p q a : Addr} {k : Pk} {args : List V} (hp : HandAt H p q) (h : PcA Cs H a k args) : PcA Cs (wo p H) a k args := ⟨h.ob.imp fun dx e => off_ins hp e, h.good⟩
theorem TupQ.off {K : PySem.W.Frag} {H : Hp} {p q b : Addr} {xs : List V} (hp : HandAt H p q) (h : TupQ K H b xs) : TupQ K (wo p H) b xs := h.imp (fun h => off_tup hp h) id
theorem ClA.off {K : PySem.W.Frag} {Cs : Pk → Addr} {CC : Addr} {H : Hp} {p q a : Addr} {z : Str} {cs ds : List Pc} (hp : HandAt H p q) (h : ClA K Cs CC H a z cs ds) : ClA K Cs CC (wo p H) a z cs ds := by
  obtain ⟨⟨dx, ca, da, xs, ys, h1, h2, h3, h4, h5⟩, l, c, d⟩ := h
  have pv : ∀ {x : V} {y : Pc}, PcV Cs H x y → PcV Cs (wo p H) x y := fun ⟨a, e, q⟩ => ⟨a, e, q.off hp⟩
  exact ⟨⟨dx, ca, da, xs, ys, off_ins hp h1, h2.off hp, h3.off hp, pr_imp h4 fun _ _ q => pv q, pr_imp h5 fun _ _ q => pv q⟩, l, c, d⟩
/-- what came of one condition more -/
def ToldIs (K : PySem.W.Frag) (Cs : Pk → Addr) (CC : Addr) (N : Hp) (x : V) (z : Str) (cs ds : List Pc) : Option (Nat × Str) → Prop
  | some (i, w) => ∃ t, x = .ref t ∧ N t = some (.tup [.int i, .str w, .str "refused"])
  | none => ∃ b, x = .ref b ∧ ClA K Cs CC N b z cs ds
theorem ToldIs.keep {K : PySem.W.Frag} {Cs : Pk → Addr} {CC : Addr} {H H' : Hp} {x : V} {z : Str} {cs ds : List Pc} {r : Option (Nat × Str)} (h : ToldIs K Cs CC H x z cs ds r) (s : Same H H') : ToldIs K Cs CC H' x z cs ds r := by
  cases r with
  | none => obtain ⟨b, e, h⟩ := h; exact ⟨b, e, h.keep s⟩
  | some r => obtain ⟨i, w⟩ := r; obtain ⟨t, e, h⟩ := h; exact ⟨t, e, s _ _ h⟩
theorem ToldIs.off {K : PySem.W.Frag} {Cs : Pk → Addr} {CC : Addr} {H : Hp} {p q : Addr} {x : V} {z : Str} {cs ds : List Pc} {r : Option (Nat × Str)} (hp : HandAt H p q) (h : ToldIs K Cs CC H x z cs ds r) : ToldIs K Cs CC (wo p H) x z cs ds r := by
  cases r with
  | none => obtain ⟨b, e, h⟩ := h; exact ⟨b, e, h.off hp⟩
  | some r => obtain ⟨i, w⟩ := r; obtain ⟨t, e, h⟩ := h; exact ⟨t, e, off_tup hp h⟩
theorem WordIs.keep {H H' : Hp} {v : V} {r : Option (Nat × Str)} (h : WordIs H v r) (s : Same H H') : WordIs H' v r := by
  cases r with
  | none => exact h
  | some r => obtain ⟨i, w⟩ := r; obtain ⟨t, e, h⟩ := h; exact ⟨t, e, s _ _ h⟩
theorem WordIs.off {H : Hp} {p q : Addr} {v : V} {r : Option (Nat × Str)} (hp : HandAt H p q) (h : WordIs H v r) : WordIs (wo p H) v r := by
  cases r with
  | none => exact h
  | some r => obtain ⟨i, w⟩ := r; obtain ⟨t, e, h⟩ := h; exact ⟨t, e, off_tup hp h⟩
theorem nw_sub {H0 H : Hp} : Same (nw H0 H) H := fun b o e => (nw_get e).2
def spSpl (K : PySem.W.Frag) (Cs : Pk → Addr) (CC : Addr) : Sp := fun vs H Q _ => ∃ (p q a pa : Addr) (z : Str) (cs ds : List Pc), vs = [.ref p, .ref a, .ref pa] ∧ HandAt H p q ∧ ClA K Cs CC (wo p H) a z cs ds ∧ PartsA (wo p H) pa (.str z) (cs.map some) (ds.map some) ∧ ∀ H', HandAt H' p q → Keep H H' p → Q (.bl true) H'
section
variable {P : Program} {w : World} {K : PySem.W.Frag} {mg : Str → Option Value} {base : Heap}
abbrev nSp : List Str := ["_law_hand_here", "_law_clause", "_law_parts", "_law_row_here", "_law_pairs", "_law_at", "_law_other", "_law_first", "_law_second", "_law_due", "_law_last", "_law_told", "_law_odd", "_law_wrong", "_law_two"]
theorem scSp : FnScope nSp ["_law_hand_here", "_law_clause", "_law_parts"] (defScope sLSplits) := ⟨rfl, rfl, rfl, by decide +kernel, rfl, by decide +kernel, by decide +kernel⟩
theorem ok_splits {f CC Bc Bh : Addr} {fd : FuncData} {Cs : Pk → Addr} (F : Fun K "_law_splits" "_law_splits" sLSplits f fd) (m : mg "_law_splits" = some (.ref f)) (T : Bl mg) (B : Bm mg) (PM : PkM P w K mg base Cs Bc Bh) (PF : PieceF P w K mg base Cs Bc Bh) (O : HasF P w K mg base "_law_one" 3 ["_law_hand_here", "_law_rows"] spOne) (Fe : HasF P w K mg base "_law_few" 4 ["_law_hand_here", "_law_change"] spFew) (CW : HasF P w K mg base "_law_clause_word" 2 ["_law_parts"] spCWord) (Mo : HasF P w K mg base "_law_more" 8 ["_law_clause", "_law_condition", "_law_split"] (spMore K Cs CC)) (CI : HasF P w K mg base "_law_clause_is" 3 ["_law_told", "_law_parts"] (spCIs K Cs CC)) : HasF P w K mg base "_law_splits" 9 ["_law_hand_here", "_law_clause", "_law_parts"] (spSpl K Cs CC) := by
  refine ⟨f, fd, ?_, m, F.kp, F.binds fun _ _ _ _ _ _ us hl => by obtain ⟨_, _, _, rfl⟩ := us3 hl; exact rfl⟩
  obtain ⟨f1, fd1, O⟩ := O; obtain ⟨f2, fd2, Fe⟩ := Fe; obtain ⟨f3, fd3, CW⟩ := CW; obtain ⟨f4, fd4, Mo⟩ := Mo; obtain ⟨f5, fd5, CI⟩ := CI; obtain ⟨f6, fd6, m6, k6, b6, G6⟩ := PF
  obtain ⟨gz, dz, MZ⟩ := PM.mki .zero (by decide)
  refine F.ok scSp (fun vs H Q E h => ?_) (fun cdv A outer s H vs Q E hr h => ?_)
  · obtain ⟨a, b, c, d, e, g, i, rfl, _⟩ := h
    rfl
  · obtain ⟨p, q, a, pa, z, cs, ds, rfl, hp, hcl, hpa, k⟩ := h
    have hr2 : Room 2 _ := hr.mono (by decide)
    have hr3 : Room 3 _ := hr.mono (by decide)
    have hr4 : Room 4 _ := hr.mono (by decide)
    have hr5 : Room 5 _ := hr.mono (by decide)
    have hr6 : Room 6 _ := hr.mono (by decide)
    refine ⟨_, (C8.pss_cut (ps_set (i := 3) scSp.nd rfl (Or.inl rfl) (pe_call Fe.G hr4 (by rfl) Fe.m Fe.kp Fe.b .nil pass0 (pa_cons (pv 0) (pa_cons pe_bl pa_nil))))
    (C8.pss_cut (ps_if (PW.pt (pw_or (pt_cmpR op_isN (pv 3) pe_non (nomark _)) (pw_or1 (pt_cmpR op_eq (pe_ix ix_tup (pv 3) pe_int (fun _ _ => rfl)) pe_str (nomark _))))) (pss_one (ps_set (i := 3) scSp.nd rfl (Or.inl rfl) (pe_tup (pa_cons pe_str pa_nil)))) pss_nil)
    (C8.pss_cut (ps_set (i := 4) scSp.nd rfl (Or.inl rfl) (pe_lst (pa_cons pe_str (pa_cons pe_str (pa_cons pe_str (pa_cons pe_str (pa_cons pe_str (pa_cons pe_str (pa_cons pe_str (pa_cons pe_str pa_nil))))))))))
    (C8.pss_cut (ps_set (i := 5) scSp.nd rfl (Or.inl rfl) (pe_bm PySem.F.plainAttrs_list PySem.F.slot_list_index PySem.F.type_list_index mt_index (pv 4) (pa_cons (pe_ix ix_tup (pv 3) pe_int (fun _ _ => rfl)) pa_nil)))
    (C8.pss_cut (ps_set (i := 6) scSp.nd rfl (Or.inl rfl) (pe_op op_catA (pe_tup (pa_cons (pe_ix ix_list (pv 4) (pe_op op_sub (pe_op op_add (pv 5) pe_int) (pe_op op_mul pe_int (pe_op op_mod (pv 5) pe_int))) (fun _ _ => rfl)) pa_nil)) (pe_slice sl_tupA (pv 3) (po_some pe_int) po_none)))
    (C8.pss_cut (ps_par (i := 7) (j := 8) rfl scSp.nd rfl rfl (by decide) rfl rfl (pa_cons (pe_lst (pa_cons (pe_ix ix_list (pv 2) pe_int (fun _ _ => rfl)) (pa_cons (pe_op op_cat (pe_ix ix_list (pv 2) pe_int (fun _ _ => rfl)) (pe_lst (pa_cons (pv 3) pa_nil))) (pa_cons (pe_ix ix_list (pv 2) pe_int (fun _ _ => rfl)) pa_nil)))) (pa_cons (pe_lst (pa_cons (pe_ix ix_list (pv 2) pe_int (fun _ _ => rfl)) (pa_cons (pe_op op_cat (pe_ix ix_list (pv 2) pe_int (fun _ _ => rfl)) (pe_lst (pa_cons (pv 6) pa_nil))) (pa_cons (pe_ix ix_list (pv 2) pe_int (fun _ _ => rfl)) pa_nil)))) pa_nil)) (by rfl))
    (C8.pss_cut (ps_par (i := 9) (j := 10) rfl scSp.nd rfl rfl (by decide) rfl rfl (pa_cons (pe_call CW.G hr2 (by rfl) CW.m CW.kp CW.b .nil pass0 (pa_cons (pv 7) pa_nil)) (pa_cons (pe_call CW.G hr2 (by rfl) CW.m CW.kp CW.b .nil pass0 (pa_cons (pv 8) pa_nil)) pa_nil)) (by rfl))
    (C8.pss_cut (ps_set (i := 11) scSp.nd rfl (Or.inl rfl) (pe_call Mo.G hr (by rfl) Mo.m Mo.kp Mo.b .nil pass0 (pa_cons (pv 1) (pa_cons (pe_call G6 hr6 (by rfl) m6 k6 b6 .nil passL (pa_cons (pv 3) pa_nil)) (pa_cons pe_bl pa_nil)))))
    (C8.pss_cut (ps_set (i := 12) scSp.nd rfl (Or.inl rfl) (pe_call O.G hr3 (by rfl) O.m O.kp O.b .nil pass0 (pa_cons (pv 0) (pa_cons (pe_lst (pa_cons pe_non (pa_cons pe_str (pa_cons pe_int (pa_cons (pe_make MZ.MK MZ.G hr5 (by rfl) MZ.m MZ.b .nil passL (pa_cons pe_str pa_nil)) (pa_cons (pe_lst (pa_cons pe_str pa_nil)) pa_nil)))))) pa_nil))))
    (C8.pss_cut (ps_set (i := 13) scSp.nd rfl (Or.inl rfl) (pe_ifExp (pt_cmpR op_eq (pe_callB call_len_seq (by rfl) T.len PySem.boot_len (pa_cons (pe_ix ix_list (pv 2) pe_int (fun _ _ => rfl)) pa_nil)) pe_int (nomark _)) (pe_tup (pa_cons pe_int (pa_cons pe_str (pa_cons pe_str pa_nil)))) (pe_tup (pa_cons (pe_callB call_len_seq (by rfl) T.len PySem.boot_len (pa_cons (pe_ix ix_list (pv 2) pe_int (fun _ _ => rfl)) pa_nil)) (pa_cons pe_str (pa_cons pe_str pa_nil))))))
    (C8.pss_cut (ps_if (PW.pt (pw_or (pt_cmpR (op_neD hr.units) (pe_call Mo.G hr (by rfl) Mo.m Mo.kp Mo.b .nil pass0 (pa_cons (pv 1) (pa_cons (pv 12) (pa_cons pe_bl pa_nil)))) (pv 13) (nomark _)) (pw_or1 (pt_cmpR (op_neD hr.units) (pe_call Mo.G hr (by rfl) Mo.m Mo.kp Mo.b .nil pass0 (pa_cons (pv 1) (pa_cons (pv 12) (pa_cons pe_bl pa_nil)))) (pv 13) (nomark _))))) (pss_one (ps_ret pe_bl)) pss_nil)
    (C8.pss_cut (ps_if (pt_cmpR op_notN (pv 9) pe_non (nomark _)) (pss_one (ps_ret (pe_and (pe_cmpR (op_eqD hr.units) (pv 11) (pe_op op_catA (pv 9) (pe_tup (pa_cons pe_str pa_nil))) (nomark _)) (pe_one (pe_cmpR (op_eqD hr.units) (pe_call Mo.G hr (by rfl) Mo.m Mo.kp Mo.b .nil pass0 (pa_cons (pv 1) (pa_cons (pe_call G6 hr6 (by rfl) m6 k6 b6 .nil passL (pa_cons (pv 3) pa_nil)) (pa_cons pe_bl pa_nil)))) (pe_op op_catA (pv 9) (pe_tup (pa_cons pe_str pa_nil))) (nomark _)))))) pss_nil)
    (C8.pss_cut (ps_if (pt_not (pt_val (pe_call CI.G hr3 (by rfl) CI.m CI.kp CI.b .nil pass0 (pa_cons (pv 11) (pa_cons (pv 7) pa_nil))))) (pss_one (ps_ret pe_bl)) pss_nil)
    (C8.pss_cut (ps_set (i := 14) scSp.nd rfl (Or.inl rfl) (pe_call Mo.G hr (by rfl) Mo.m Mo.kp Mo.b .nil pass0 (pa_cons (pv 1) (pa_cons (pe_call G6 hr6 (by rfl) m6 k6 b6 .nil passL (pa_cons (pv 3) pa_nil)) (pa_cons pe_bl pa_nil)))))
    (C8.pss_cut (ps_if (pt_cmpR op_notN (pv 10) pe_non (nomark _)) (pss_one (ps_ret (pe_cmpR (op_eqD hr.units) (pv 14) (pe_op op_catA (pv 10) (pe_tup (pa_cons pe_str pa_nil))) (nomark _)))) pss_nil)
    (pss_one (ps_ret (pe_and (pe_callB call_isi (by rfl) B.isinstance (by decide +kernel) (pa_cons (pv 14) (pa_cons (pe_bltn (v := .ty "tuple") (by rfl) B.tuple (by decide +kernel) rfl) pa_nil))) (pe_and (pe_cmpR op_eq (pe_callB call_len_seq (by rfl) T.len PySem.boot_len (pa_cons (pv 14) pa_nil)) pe_int (nomark _)) (pe_and (pe_call CI.G hr3 (by rfl) CI.m CI.kp CI.b .nil pass0 (pa_cons (pe_ix ix_tup (pv 14) pe_int (fun _ _ => rfl)) (pa_cons (pv 7) pa_nil))) (pe_one (pe_call CI.G hr3 (by rfl) CI.m CI.kp CI.b .nil pass0 (pa_cons (pe_ix ix_tup (pv 14) pe_int (fun _ _ => rfl)) (pa_cons (pv 8) pa_nil)))))))))))))))))))))))), ?_⟩
    have l6 := (condScan_of hcl.cd).1
    -- a row
    refine ⟨fun σ H1 => ∃ x o, σ = [some (.ref p), some (.ref a), some (.ref pa), some x, none, none, none, none, none, none, none, none, none, none, none] ∧ RowV (wo p H1) x o ∧ (∀ y, o = some y → y.1.cond = true ∨ y.1 = .zero) ∧ HandAt H1 p q ∧ Keep H H1 p, ?_, ?_⟩
    · exact ⟨_, rfl, p, q, false, rfl, hp, fun x o H1 hx ho _ hp1 k1 => ⟨x, o, rfl, hx, ho rfl, hp1, k1⟩⟩
    rintro σ H1 ⟨x, o, rfl, hx, ho, hp1, k1⟩
    -- a condition's row
    refine ⟨fun σ H2 => ∃ (r : Addr) (y : Pc), σ = [some (.ref p), some (.ref a), some (.ref pa), some (.ref r), none, none, none, none, none, none, none, none, none, none, none] ∧ RowA (wo p H2) r y ∧ y.ok ∧ nice y ∧ y.1.cond = true ∧ HandAt H2 p q ∧ Keep H H2 p, ?_, ?_⟩
    · have same : 1 ≤ sizeLine ∧ ∀ t, H1 t = none → ∃ (r : Addr) (y : Pc), [some (V.ref p), some (.ref a), some (.ref pa), some (.ref t), none, none, none, none, none, none, none, none, none, none, none] = [some (V.ref p), some (.ref a), some (.ref pa), some (.ref r), none, none, none, none, none, none, none, none, none, none, none] ∧ RowA (wo p (upd H1 t (.tup [V.str "same"]))) r y ∧ y.ok ∧ nice y ∧ y.1.cond = true ∧ HandAt (upd H1 t (.tup [V.str "same"])) p q ∧ Keep H (upd H1 t (.tup [V.str "same"])) p := ⟨by decide, fun t ht => by
        have s1 := sameUpd (o := .tup [V.str "same"]) (Same.refl H1) ht
        exact ⟨t, (.same, []), rfl, wo_at upd_same (hp1.ap ht), rfl, nice_k (by decide), rfl, hp1.same s1, fun b u e ne => s1 b u (k1 b u e ne)⟩⟩
      cases o with
      | none =>
        have e : x = .non := hx
        subst e
        exact ⟨_, rfl, rfl, _, rfl, iteT same⟩
      | some y =>
        obtain ⟨t, rfl, hrow, ok, nc⟩ := hx
        refine ⟨_, rfl, rfl, _, rfl, iteF ⟨_, rfl, t, _, _, _, rfl, rfl, SqT.of (wo_same _ _ hrow), atI0 _ _, rfl, _, rfl, ifW .zero (fun e => same) fun e => ?_⟩⟩
        exact ⟨t, y, rfl, hrow, ok, nc, (ho y rfl).resolve_right e, hp1, k1⟩
    rintro σ H2 ⟨r, y, rfl, hrow, ok, nc, hc, hp2, k2⟩
    have hrow2 := wo_same _ _ hrow
    -- its place
    refine ⟨fun σ H3 => ∃ l, σ = [some (.ref p), some (.ref a), some (.ref pa), some (.ref r), some (.ref l), none, none, none, none, none, none, none, none, none, none] ∧ Same H2 H3 ∧ H3 l = some (.lst cWords), ?_, ?_⟩
    · exact ⟨(by show 8 ≤ sizeLine; decide), fun l hl => ⟨l, rfl, sameUpd (Same.refl _) hl, upd_same⟩⟩
    rintro σ H3 ⟨l, rfl, s3, hl⟩
    obtain ⟨j, j8, hj, jm, jo⟩ := pair_at hc
    refine ⟨fun σ H4 => σ = [some (.ref p), some (.ref a), some (.ref pa), some (.ref r), some (.ref l), some (.int (j : Nat)), none, none, none, none, none, none, none, none, none] ∧ H3 = H4, ?_, ?_⟩
    · refine ⟨_, rfl, .inl ⟨rfl, _, SqL.of hl⟩, _, rfl, r, _, _, _, rfl, rfl, SqT.of (s3 _ _ hrow2), atI0 _ _, ?_⟩
      exact ⟨l, cWords, _, j, _, rfl, rfl, SqL.of hl, rfl, by decide, hj, by simp [eqV], jm, rfl, rfl⟩
    rintro σ _ ⟨rfl, rfl⟩
    -- the other row
    refine ⟨fun σ H5 => ∃ u, σ = [some (.ref p), some (.ref a), some (.ref pa), some (.ref r), some (.ref l), some (.int (j : Nat)), some (.ref u), none, none, none, none, none, none, none, none] ∧ Same H2 H5 ∧ RowA H5 u (oppP y), ?_, ?_⟩
    · refine ⟨_, rfl, _, rfl, _, _, rfl, rfl, _, rfl, _, _, rfl, rfl, (by show (0 : Int) < 2; decide), _, _, rfl, rfl, .inl ⟨by decide, by decide⟩, _, _, rfl, rfl, ?_⟩
      refine ⟨l, cWords, _, _, rfl, rfl, SqL.of hl, jo, (by show 1 ≤ sizeLine; decide), fun t1 h1 => ?_⟩
      have st1 := sameUpd (o := .tup [V.str y.1.opp.word]) s3 h1
      have w1 : ¬ (HT.sIx (V.str y.1.word :: y.2).length 0 (some (1 : Int)) = 0 ∧ HT.sIx (V.str y.1.word :: y.2).length (V.str y.1.word :: y.2).length none = (V.str y.1.word :: y.2).length) := fun e => by
        have e1 := e.1
        simp [HT.sIx] at e1
      have l2 : y.2.length ≤ 2 := by rw [(good_args ok).1]; cases y.1.sh <;> decide
      have cd : cutV (V.str y.1.word :: y.2) (some (1 : Int)) none = y.2 := cut_drop (V.str y.1.word :: y.2) 1 (by simp)
      refine ⟨_, rfl, _, rfl, r, _, rfl, SqT.of (st1 _ _ hrow2), fun e => absurd e w1, fun _ t2 h2 => ?_⟩
      rw [cd]
      have st2 := sameUpd (o := .tup y.2) st1 h2
      have t12 : t1 ≠ t2 := ne_of_none upd_same h2
      refine ⟨t1, t2, [V.str y.1.opp.word], y.2, rfl, rfl, SqT.of (by rw [upd_ne t12]; exact upd_same), SqT.of upd_same, Nat.le_of_lt (line2 (by simp; omega)), fun e => absurd e (List.cons_ne_nil _ _), fun _ e => ?_, fun _ _ t3 h3 => ?_⟩
      · refine ⟨t1, rfl, st2, ?_⟩
        show upd (upd _ t1 _) t2 _ t1 = some (.tup (.str y.1.opp.word :: y.2))
        rw [upd_ne t12, upd_same, e]
      · exact ⟨t3, rfl, sameUpd st2 h3, upd_same⟩
    rintro σ H5 ⟨u, rfl, s5, hu⟩
    have oko : (oppP y).ok := (opp_pw y.1 y.2).trans ok
    have nco : nice (oppP y) := by
      have e : whatOf (oppP y) = whatOf y := by unfold whatOf oppP; rw [opp_sh]
      unfold nice
      rw [e]
      exact nc
    have hcl2 : ClA K Cs CC H2 a z cs ds := (hcl.keep (wo_keep k2)).keep wo_same
    have hpa2 : PartsA (wo p H2) pa (.str z) (cs.map some) (ds.map some) := hpa.keep (wo_keep k2)
    -- the parts with the one and with the other
    refine ⟨fun σ H6 => ∃ fa sa, σ = [some (.ref p), some (.ref a), some (.ref pa), some (.ref r), some (.ref l), some (.int (j : Nat)), some (.ref u), some (.ref fa), some (.ref sa), none, none, none, none, none, none] ∧ Same H2 H6 ∧ PartsA (wo p H6) fa (.str z) ((cs ++ [y]).map some) (ds.map some) ∧ PartsA (wo p H6) sa (.str z) ((cs ++ [oppP y]).map some) (ds.map some), ?_, ?_⟩
    · obtain ⟨n, cl, dl, us, vs, hpl, tk, hc', pu, hd', pv_⟩ := hpa2.ob
      have lus : us.length = cs.length := by rw [Paired.length pu, List.length_map]
      have ld : ds.length ≤ 9 := by have := hpa2.l2; simpa using this
      have hc0 := wo_same _ _ hc'
      have mk : ∀ (y' : Pc) (r' : Addr) (H' : Hp) (l2 fa : Addr), Same H2 H' → RowA (wo p H') r' y' → y'.ok → nice y' → wo p H' l2 = some (.lst (us ++ [.ref r'])) → wo p H' fa = some (.lst [.str z, .ref l2, .ref dl]) → PartsA (wo p H') fa (.str z) ((cs ++ [y']).map some) (ds.map some) := fun y' r' H' l2 fa s0 hr' ok' nc' h2 h3 => by
        have s' : Same (wo p H2) (wo p H') := wo_keep (Same.keep s0)
        refine ⟨⟨n, l2, dl, _, vs, h3, tk.keep s', h2, ?_, s' _ _ hd', pr_imp pv_ fun _ _ q => RowV.keep q s'⟩, by simp; omega, by simpa using ld⟩
        rw [map_app]
        exact paired_app (pr_imp pu fun _ _ q => RowV.keep q s') ⟨r', rfl, hr', ok', nc'⟩
      have ix : ∀ {H' : Hp}, Same H2 H' → SqL K H' pa [.str z, .ref cl, .ref dl] := fun s => SqL.of (s _ _ (wo_same _ _ hpl))
      refine ⟨_, rfl, pa, _, _, _, rfl, rfl, ix s5, atI0 _ _, _, rfl, pa, _, _, _, rfl, rfl, ix s5, atI1 _ _ _, _, rfl, (by show 1 ≤ sizeLine; decide), fun l1 h1 => ?_⟩
      have t1 := sameUpd (o := .lst [V.ref r]) s5 h1
      refine ⟨cl, l1, us, _, rfl, rfl, t1 _ _ hc0, upd_same, Nat.le_of_lt (line2 (by simp; omega)), fun l2 h2 => ?_⟩
      have t2 := sameUpd (o := .lst (us ++ [V.ref r])) t1 h2
      refine ⟨_, rfl, pa, _, _, _, rfl, rfl, ix t2, atI2 _ _ _ _, (by show 3 ≤ sizeLine; decide), fun fa hfa => ?_⟩
      have t3' := sameUpd (o := .lst [.str z, .ref l2, .ref dl]) (Same.refl _) hfa
      have t3 := t2.trans t3'
      have u5 : Same H5 _ := ((sameUpd (o := .lst [V.ref r]) (Same.refl H5) h1).trans (sameUpd (o := .lst (us ++ [V.ref r])) (Same.refl _) h2)).trans t3'
      have P1 := mk y r _ l2 fa t3 (wo_keep (Same.keep t3) _ _ hrow) ok nc (wo_at (t3' _ _ upd_same) ((hp2.same t1).ap h2)) (wo_at upd_same ((hp2.same t2).ap hfa))
      refine ⟨_, rfl, pa, _, _, _, rfl, rfl, ix t3, atI0 _ _, _, rfl, pa, _, _, _, rfl, rfl, ix t3, atI1 _ _ _, _, rfl, (by show 1 ≤ sizeLine; decide), fun l1' h1' => ?_⟩
      have v1 := sameUpd (o := .lst [V.ref u]) (Same.refl _) h1'
      have t4 := t3.trans v1
      refine ⟨cl, l1', us, _, rfl, rfl, t4 _ _ hc0, upd_same, Nat.le_of_lt (line2 (by simp; omega)), fun l2' h2' => ?_⟩
      have v2 := sameUpd (o := .lst (us ++ [V.ref u])) v1 h2'
      have t5 := t3.trans v2
      refine ⟨_, rfl, pa, _, _, _, rfl, rfl, ix t5, atI2 _ _ _ _, (by show 3 ≤ sizeLine; decide), fun sa hsa => ?_⟩
      have v3' := sameUpd (o := .lst [.str z, .ref l2', .ref dl]) (Same.refl _) hsa
      have v3 := v2.trans v3'
      have hp6 := hp2.same (t3.trans v3)
      exact ⟨_, _, rfl, fa, sa, rfl, t3.trans v3, P1.keep (wo_keep (Same.keep v3)), mk (oppP y) u _ l2' sa (t3.trans v3) (off_tup hp6 ((u5.trans v3) _ _ hu)) oko nco (wo_at (v3' _ _ upd_same) ((hp2.same t4).ap h2')) (wo_at upd_same ((hp2.same t5).ap hsa))⟩
    rintro σ H6 ⟨fa, sa, rfl, s6, hfa, hsa⟩
    have due : ∀ c' : List Pc, clDue (.str z) (some (c'.map some)) (some (ds.map some)) = condDue (some (c'.map some)) := fun c' => by
      unfold clDue
      rw [show labV (.str z) = true from hcl.lab, if_pos rfl, hcl.hd]
      cases condDue (some (c'.map some)) <;> rfl
    -- their words
    refine ⟨fun σ H7 => ∃ v1 v2, σ = [some (.ref p), some (.ref a), some (.ref pa), some (.ref r), some (.ref l), some (.int (j : Nat)), some (.ref u), some (.ref fa), some (.ref sa), some v1, some v2, none, none, none, none] ∧ Same H6 H7 ∧ WordIs H7 v1 (condDue (some ((cs ++ [y]).map some))) ∧ WordIs H7 v2 (condDue (some ((cs ++ [oppP y]).map some))), ?_, ?_⟩
    · refine ⟨_, rfl, fa, .str z, _, _, rfl, hfa.keep wo_same, fun v1 Ha sa' w1 => ⟨_, rfl, sa, .str z, _, _, rfl, hsa.keep (wo_same.trans sa'), fun v2 Hb sb w2 => ?_⟩⟩
      rw [due] at w1 w2
      exact ⟨v1, v2, rfl, v1, v2, rfl, sa'.trans sb, w1.keep (nw_sub.trans sb), w2.keep nw_sub⟩
    rintro σ H7 ⟨v1, v2, rfl, s7, w1, w2⟩
    have s27 := s6.trans s7
    have eqd : condDue (some (cs.map some ++ [some y])) = condDue (some ((cs ++ [y]).map some)) := by rw [map_app]
    -- one condition more
    refine ⟨fun σ H8 => ∃ x, σ = [some (.ref p), some (.ref a), some (.ref pa), some (.ref r), some (.ref l), some (.int (j : Nat)), some (.ref u), some (.ref fa), some (.ref sa), some v1, some v2, some x, none, none, none] ∧ Same H7 H8 ∧ ToldIs K Cs CC H8 x z (cs ++ [y]) ds (condDue (some ((cs ++ [y]).map some))), ?_, ?_⟩
    · refine ⟨_, rfl, _, rfl, r, y.1, y.2, rfl, s27 _ _ hrow2, (good_args ok).1, good_things ok, ?_⟩
      unfold PieceOut Pk.pw
      rw [show y.1.sh.pw y.2 = none from ok]
      intro ap Ha hap sa' hp'
      refine ⟨a, .ref ap, false, z, cs, ds, some y, rfl, hcl2.keep (s27.trans sa'), .pc hp', ?_⟩
      rw [eqd]
      cases e : condDue (some ((cs ++ [y]).map some)) with
      | some rr =>
        obtain ⟨i, w'⟩ := rr
        exact fun t H' s' ht h' => ⟨.ref t, rfl, sa'.trans s', t, rfl, h'⟩
      | none =>
        intro p' ep
        cases ep
        exact fun b H' hb s' cb => ⟨.ref b, rfl, sa'.trans s', b, rfl, cb⟩
    rintro σ H8 ⟨x8, rfl, s8, told⟩
    have s28 := s27.trans s8
    have hp8 := hp2.same s28
    have k8 : Keep H H8 p := fun b o e ne => s28 b o (k2 b o e ne)
    have w68 : Same (wo p H6) (wo p H8) := wo_keep (Same.keep (s7.trans s8))
    have fa8 := hfa.keep w68
    have sa8 := hsa.keep w68
    have w1' := (w1.keep s8).off hp8
    have w2' := (w2.keep s8).off hp8
    have told8 : ToldIs K Cs CC (wo p H8) x8 z (cs ++ [y]) ds (condDue (some ((cs ++ [y]).map some))) := told.off hp8
    have row8 : RowA (wo p H8) r y := off_tup hp8 (s28 _ _ hrow2)
    have cl8 : ClA K Cs CC (wo p H8) a z cs ds := hcl.keep (wo_keep k8)
    have pa8 : PartsA (wo p H8) pa (.str z) (cs.map some) (ds.map some) := hpa.keep (wo_keep k8)
    -- an odd thing
    refine ⟨fun σ H9 => ∃ ox o9, σ = [some (.ref p), some (.ref a), some (.ref pa), some (.ref r), some (.ref l), some (.int (j : Nat)), some (.ref u), some (.ref fa), some (.ref sa), some v1, some v2, some x8, some ox, none, none] ∧ HandAt H9 p q ∧ Keep H8 H9 p ∧ ItemIs Cs (wo p H9) ox o9 ∧ ∀ y', o9 = some y' → y'.1.cond = false, ?_, ?_⟩
    · refine ⟨_, rfl, fun az zd hzx hzd ne => spI_ok (Cs := Cs) (k := .zero) (args := [V.str "use"]) hzx hzd ne (by decide +kernel) fun Ha sz hz => ⟨rfl, ?_⟩⟩
      refine ⟨(by show 1 ≤ sizeLine; decide), fun l1 h1 => ⟨(by show 5 ≤ sizeLine; decide), fun lo hlo => ?_⟩⟩
      have q1 := sameUpd (o := .lst [V.str "same"]) sz h1
      generalize eL : [V.non, V.str "same", V.int 5, V.ref az, V.ref l1] = L
      have q2 := sameUpd (o := .lst L) q1 hlo
      have hpa' := hp8.same sz
      have l1p : l1 ≠ p := hpa'.ap h1
      refine ⟨p, q, lo, L, rfl, hp8.same q2, upd_same, (hp8.same q1).ap hlo, (by rw [← eL]; show 0 < 5; decide), (by rw [← eL]; show 5 ≤ 1000; decide), fun ox H9 hox hp9 k9 => ?_⟩
      have k89 : Keep H8 H9 p := fun b o e ne => k9 b o (q2 b o e) ne
      have ea : Same (upd Ha l1 (.lst [V.str "same"])) (upd (upd Ha l1 (.lst [V.str "same"])) lo (.lst L)) := sameUpd (Same.refl _) hlo
      have sal : Same Ha (upd Ha l1 (.lst [V.str "same"])) := sameUpd (Same.refl _) h1
      have hz9 : PcA Cs (wo p H9) az .zero [V.str "use"] := (hz.off hpa').keep (wo_keep fun b o e ne => k9 b o (ea b o (sal b o e)) ne)
      have e1 : wo p H9 l1 = some (.lst [V.str "same"]) := wo_at (k9 _ _ (ea _ _ upd_same) l1p) l1p
      rw [← eL] at hox
      simp only [List.mem_cons, List.not_mem_nil, or_false] at hox
      rcases hox with e | e | e | e | e <;> subst e
      · exact ⟨_, none, rfl, hp9, k89, .oth (n := "NoneType") ⟨.non, fun z e => nomatch e⟩, fun _ e => nomatch e⟩
      · exact ⟨_, none, rfl, hp9, k89, .oth (lab_thing (z := Str.ofString "same") (by decide +kernel)), fun _ e => nomatch e⟩
      · exact ⟨_, none, rfl, hp9, k89, .oth (n := "int") ⟨.int 5, fun z e => nomatch e⟩, fun _ e => nomatch e⟩
      · exact ⟨_, some (.zero, [V.str "use"]), rfl, hp9, k89, .pc hz9, fun _ e => by cases e; rfl⟩
      · exact ⟨_, none, rfl, hp9, k89, .oth ⟨.lst l1 _ e1, fun z e => nomatch e⟩, fun _ e => nomatch e⟩
    rintro σ H9 ⟨ox, o9, rfl, hp9, k9, it9, no9⟩
    have w89 : Same (wo p H8) (wo p H9) := wo_keep k9
    have k09 : Keep H H9 p := k8.trans k9
    have row9 : H9 r = some (.tup (.str y.1.word :: y.2)) := wo_same _ _ (w89 _ _ row8)
    have cl9 : ClA K Cs CC H9 a z cs ds := (cl8.keep w89).keep wo_same
    have fa9 := (fa8.keep w89).keep (wo_same (H := H9))
    have sa9 := (sa8.keep w89).keep (wo_same (H := H9))
    have w1'' := (w1'.keep w89).keep (wo_same (H := H9))
    have w2'' := (w2'.keep w89).keep (wo_same (H := H9))
    have told9 := (told8.keep w89).keep (wo_same (H := H9))
    have it9' := it9.keep (wo_same (H := H9))
    obtain ⟨n9, cl9', dl9, us9, vs9, hp9l, _, hc9, pu9, _, _⟩ := ((pa8.keep w89).keep (wo_same (H := H9))).ob
    have lus9 : us9.length = cs.length := by rw [Paired.length pu9, List.length_map]
    have odd := odd_due (o := o9) hcl.cd no9
    have fin : ∀ H', Same H9 H' → Q (.bl true) H' := fun H' s => k H' (hp9.same s) fun b o e ne => s b o (k09 b o e ne)
    have cat : ∀ {v : V} {i : Nat} {w' : Str} {H' : Hp} {Q' : VK}, (∃ t, v = .ref t ∧ H' t = some (.tup [.int i, .str w'])) → (∀ t H'', Same H' H'' → H'' t = some (.tup [.int i, .str w', .str "refused"]) → Q' (.ref t) H'') → 1 ≤ sizeLine ∧ ∀ t1, H' t1 = none → rCatA K v (.ref t1) (upd H' t1 (.tup [V.str "refused"])) Q' := fun ⟨t, e, ht⟩ kk => ⟨by decide, fun t1 h1 => by
      subst e
      have s1 := sameUpd (o := .tup [V.str "refused"]) (Same.refl _) h1
      exact ⟨t, t1, _, _, rfl, rfl, SqT.of (s1 _ _ ht), SqT.of upd_same, (by show 3 ≤ sizeLine; decide), fun e => absurd e (List.cons_ne_nil _ _), fun _ e => absurd e (List.cons_ne_nil _ _), fun _ _ t2 h2 => kk t2 _ (s1.trans (sameUpd (Same.refl _) h2)) upd_same⟩⟩
    -- what is wrong with the odd thing
    refine ⟨fun σ Ha => ∃ (wt : Addr) (i0 : Nat) (w0 : Str), σ = [some (.ref p), some (.ref a), some (.ref pa), some (.ref r), some (.ref l), some (.int (j : Nat)), some (.ref u), some (.ref fa), some (.ref sa), some v1, some v2, some x8, some ox, some (.ref wt), none] ∧ Same H9 Ha ∧ Ha wt = some (.tup [.int i0, .str w0, .str "refused"]) ∧ condDue (some (cs.map some ++ [o9])) = some (i0, w0), ?_, ?_⟩
    · refine ⟨_, rfl, pa, _, _, _, rfl, rfl, SqL.of hp9l, atI1 _ _ _, cl9', us9, rfl, .inl (SqL.of hc9), rfl, _, rfl, ?_⟩
      rw [lus9]
      refine ite2 (fun e => ?_) (fun e => ?_)
      · have e : cs.length = 6 := by have := V.int.inj (of_decide_eq_true e); omega
        rw [if_pos e] at odd
        exact ⟨(by show 3 ≤ sizeLine; decide), fun t ht => ⟨t, 0, _, rfl, sameUpd (Same.refl _) ht, upd_same, odd⟩⟩
      · have e : ¬ cs.length = 6 := fun h => e (by rw [h]; exact decide_eq_true rfl)
        rw [if_neg e] at odd
        refine ⟨_, rfl, pa, _, _, _, rfl, rfl, SqL.of hp9l, atI1 _ _ _, cl9', us9, rfl, .inl (SqL.of hc9), (by show 3 ≤ sizeLine; decide), fun t ht => ⟨t, cs.length, _, rfl, sameUpd (Same.refl _) ht, ?_, odd⟩⟩
        rw [upd_same, lus9]
    rintro σ Ha ⟨wt, i0, w0, rfl, sa', hwt, odd⟩
    have ok0 := condDue_word odd
    refine ⟨fun σ Hb => σ = [some (.ref p), some (.ref a), some (.ref pa), some (.ref r), some (.ref l), some (.int (j : Nat)), some (.ref u), some (.ref fa), some (.ref sa), some v1, some v2, some x8, some ox, some (.ref wt), none] ∧ Same H9 Hb, ?_, ?_⟩
    · refine ⟨_, rfl, _, rfl, a, ox, false, z, cs, ds, o9, rfl, cl9.keep sa', it9'.keep sa', ?_⟩
      rw [odd]
      intro t Hb sb ht htb
      refine ⟨_, rfl, ref3D i0 w0, ref3D i0 w0, dp_ref3 htb, dp_ref3 (sb _ _ hwt), shaped_ref3 ok0, shaped_ref3 ok0, _, rfl, ?_⟩
      rw [eqv_ref3 ok0]
      have sab := sa'.trans sb
      refine iteF ⟨_, rfl, _, rfl, a, ox, true, z, cs, ds, o9, rfl, cl9.keep sab, it9'.keep sab, ?_⟩
      rw [odd]
      intro t2 Hc sc ht2 htc
      refine ⟨_, rfl, ref3D i0 w0, ref3D i0 w0, dp_ref3 htc, dp_ref3 ((sb.trans sc) _ _ hwt), shaped_ref3 ok0, shaped_ref3 ok0, _, rfl, ?_⟩
      rw [eqv_ref3 ok0]
      exact iteF ⟨rfl, sab.trans sc⟩
    rintro σ Hb ⟨rfl, sb⟩
    -- refused
    have more : ∀ {H' : Hp} {Q' : VK}, Same H9 H' → (∀ x H'', Same H' H'' → (match condDue (some ((cs ++ [y]).map some)) with
        | some (i, w) => ∃ t, x = .ref t ∧ H'' t = some (.tup [.int i, .str w, .str "refused"])
        | none => (match condDue (some ((cs ++ [oppP y]).map some)) with
          | some (i, w) => ∃ t, x = .ref t ∧ H'' t = some (.tup [.int i, .str w, .str "refused"])
          | none => ∃ t b c, x = .ref t ∧ H'' t = some (.tup [.ref b, .ref c]) ∧ ClA K Cs CC H'' b z (cs ++ [y]) ds ∧ ClA K Cs CC H'' c z (cs ++ [oppP y]) ds)) → Q' x H'') →
        spPiece Cs Bc Bh ([V.ref r] ++ []) H' (fun x H1 => spMore K Cs CC ([V.ref a, x, V.bl true] ++ []) H1 Q' E0) E0 := fun {H'} {Q'} s kk => by
      refine ⟨r, y.1, y.2, rfl, s _ _ row9, (good_args ok).1, good_things ok, ?_⟩
      unfold PieceOut Pk.pw
      rw [show y.1.sh.pw y.2 = none from ok]
      intro ap Hx hap sx hpx
      refine ⟨a, .ref ap, true, z, cs, ds, some y, rfl, cl9.keep (s.trans sx), .pc hpx, ?_⟩
      rw [eqd]
      cases e : condDue (some ((cs ++ [y]).map some)) with
      | some rr =>
        obtain ⟨i, w'⟩ := rr
        exact fun t H'' s' ht h' => kk (.ref t) H'' (sx.trans s') (by rw [e]; exact ⟨t, rfl, h'⟩)
      | none =>
        intro p' ep
        cases ep
        rw [if_pos rfl]
        cases e2 : condDue (some ((cs ++ [oppP y]).map some)) with
        | some rr =>
          obtain ⟨i, w'⟩ := rr
          exact fun t H'' s' ht h' => kk (.ref t) H'' (sx.trans s') (by rw [e, e2]; exact ⟨t, rfl, h'⟩)
        | none => exact fun t b c H'' s' _ h' cb cc => kk (.ref t) H'' (sx.trans s') (by rw [e, e2]; exact ⟨t, b, c, rfl, h', cb, cc⟩)
    have told_b := told9.keep sb
    have w1b := w1''.keep sb
    have w2b := w2''.keep sb
    cases e : condDue (some ((cs ++ [y]).map some)) with
    | some rr =>
      obtain ⟨i, w'⟩ := rr
      have okw := condDue_word e
      rw [e] at told_b w1b
      obtain ⟨td, e1, htd⟩ := w1b
      obtain ⟨tt, e2, htt⟩ := told_b
      subst e1
      subst e2
      refine ⟨fun _ _ => False, ?_, fun _ _ h => h.elim⟩
      refine ⟨_, rfl, rfl, _, rfl, iteT ⟨_, rfl, _, rfl, cat ⟨td, rfl, htd⟩ fun t1 Hc sc ht1 => ?_⟩⟩
      refine ⟨ref3D i w', ref3D i w', dp_ref3 (sc _ _ htt), dp_ref3 ht1, shaped_ref3 okw, shaped_ref3 okw, _, rfl, ?_⟩
      rw [eqv_ref3 okw]
      refine iteT ⟨_, rfl, _, rfl, more (sb.trans sc) fun x Hd sd hx => ?_⟩
      rw [e] at hx
      obtain ⟨t2, rfl, ht2⟩ := hx
      refine ⟨_, rfl, cat ⟨td, rfl, (sc.trans sd) _ _ htd⟩ fun t3 He se ht3 => ?_⟩
      refine ⟨ref3D i w', ref3D i w', dp_ref3 (se _ _ ht2), dp_ref3 ht3, shaped_ref3 okw, shaped_ref3 okw, ?_⟩
      rw [eqv_ref3 okw]
      exact fin _ (((sb.trans sc).trans sd).trans se)
    | none =>
      rw [e] at told_b w1b
      have e1 : v1 = .non := w1b
      obtain ⟨bt, e2, hbt⟩ := told_b
      subst e1
      subst e2
      refine ⟨fun σ Hc => σ = [some (.ref p), some (.ref a), some (.ref pa), some (.ref r), some (.ref l), some (.int (j : Nat)), some (.ref u), some (.ref fa), some (.ref sa), some .non, some v2, some (.ref bt), some ox, some (.ref wt), none] ∧ Hb = Hc, ?_, ?_⟩
      · exact ⟨_, rfl, rfl, _, rfl, iteF ⟨rfl, rfl⟩⟩
      rintro σ _ ⟨rfl, rfl⟩
      refine ⟨fun σ Hc => σ = [some (.ref p), some (.ref a), some (.ref pa), some (.ref r), some (.ref l), some (.int (j : Nat)), some (.ref u), some (.ref fa), some (.ref sa), some .non, some v2, some (.ref bt), some ox, some (.ref wt), none] ∧ Same Hb Hc, ?_, ?_⟩
      · exact ⟨_, rfl, _, rfl, bt, fa, z, cs ++ [y], ds, rfl, hbt, fa9.keep sb, fun H' s' => ⟨_, rfl, iteF ⟨rfl, s'⟩⟩⟩
      rintro σ Hc ⟨rfl, sc⟩
      have sbc := sb.trans sc
      refine ⟨fun σ Hd => ∃ x, σ = [some (.ref p), some (.ref a), some (.ref pa), some (.ref r), some (.ref l), some (.int (j : Nat)), some (.ref u), some (.ref fa), some (.ref sa), some .non, some v2, some (.ref bt), some ox, some (.ref wt), some x] ∧ Same Hc Hd ∧ (match condDue (some ((cs ++ [oppP y]).map some)) with
          | some (i, w) => ∃ t, x = .ref t ∧ Hd t = some (.tup [.int i, .str w, .str "refused"])
          | none => ∃ t b c, x = .ref t ∧ Hd t = some (.tup [.ref b, .ref c]) ∧ ClA K Cs CC Hd b z (cs ++ [y]) ds ∧ ClA K Cs CC Hd c z (cs ++ [oppP y]) ds), ?_, ?_⟩
      · refine ⟨_, rfl, _, rfl, more sbc fun x Hd sd hx => ?_⟩
        rw [e] at hx
        exact ⟨x, rfl, sd, hx⟩
      rintro σ Hd ⟨x, rfl, sd, hx⟩
      have sbd := sbc.trans sd
      have w2d := w2b.keep (sc.trans sd)
      cases e3 : condDue (some ((cs ++ [oppP y]).map some)) with
      | some rr =>
        obtain ⟨i, w'⟩ := rr
        have okw := condDue_word e3
        rw [e3] at hx w2d
        obtain ⟨td, e4, htd⟩ := w2d
        obtain ⟨tt, e5, htt⟩ := hx
        subst e4
        subst e5
        refine ⟨fun _ _ => False, ?_, fun _ _ h => h.elim⟩
        refine ⟨_, rfl, rfl, _, rfl, iteT ⟨_, rfl, _, rfl, cat ⟨td, rfl, htd⟩ fun t1 He se ht1 => ?_⟩⟩
        refine ⟨ref3D i w', ref3D i w', dp_ref3 (se _ _ htt), dp_ref3 ht1, shaped_ref3 okw, shaped_ref3 okw, ?_⟩
        rw [eqv_ref3 okw]
        exact fin _ (sbd.trans se)
      | none =>
        rw [e3] at hx w2d
        have e4 : v2 = .non := w2d
        obtain ⟨tt, b, c, e5, htt, hb, hc'⟩ := hx
        subst e4
        subst e5
        refine ⟨fun σ He => σ = [some (.ref p), some (.ref a), some (.ref pa), some (.ref r), some (.ref l), some (.int (j : Nat)), some (.ref u), some (.ref fa), some (.ref sa), some .non, some .non, some (.ref bt), some ox, some (.ref wt), some (.ref tt)] ∧ Hd = He, ?_, ?_⟩
        · exact ⟨_, rfl, rfl, _, rfl, iteF ⟨rfl, rfl⟩⟩
        rintro σ _ ⟨rfl, rfl⟩
        refine ⟨_, rfl, _, _, _, _, _, rfl, .ty _, .base (.tup htt), kit_ty (kit_tuple (by decide)), _, rfl, iteT ?_⟩
        refine ⟨_, rfl, tt, _, rfl, .inr (SqT.of htt), rfl, _, rfl, iteT ?_⟩
        refine ⟨_, rfl, tt, _, _, _, rfl, rfl, SqT.of htt, atI0 _ _, _, rfl, b, fa, z, cs ++ [y], ds, rfl, hb, fa9.keep sbd, fun He se => ⟨_, rfl, iteT ?_⟩⟩
        exact ⟨_, rfl, tt, _, _, _, rfl, rfl, SqT.of (se _ _ htt), atI1 _ _ _, _, rfl, c, sa, z, cs ++ [oppP y], ds, rfl, hc'.keep se, sa9.keep (sbd.trans se), fun Hf sf => fin Hf ((sbd.trans se).trans sf)⟩
end
end Kx

set_option maxHeartbeats 16000000
namespace Kx
open PySem L2
/-! the law's mathematics -/
theorem condScan_iff : ∀ {ps seen : List Pc} {i : Nat}, condScan seen i (ps.map some) = none ↔ (∀ p ∈ ps, p.1.cond = true) ∧ ps.Nodup ∧ ∀ p ∈ ps, p ∉ seen
  | [], seen, i => ⟨fun _ => ⟨(fun p h => nomatch h), .nil, (fun p h => nomatch h)⟩, fun _ => rfl⟩
  | p :: ps, seen, i => by
    show (if p.1.cond then (if decide (p ∈ seen) then some (i, Str.ofString "double") else condScan (seen ++ [p]) (i + 1) (ps.map some)) else some (i, Str.ofString "condition")) = none ↔ _
    cases e : p.1.cond with
    | false =>
      rw [if_neg Bool.false_ne_true]
      exact ⟨(fun h => nomatch h), fun h => by have := h.1 p (.head _); rw [e] at this; cases this⟩
    | true =>
      rw [if_pos rfl]
      by_cases e2 : p ∈ seen
      · rw [if_pos (decide_eq_true e2)]
        exact ⟨(fun h => nomatch h), fun h => absurd e2 (h.2.2 p (.head _))⟩
      · rw [if_neg (by rw [decide_eq_false e2]; exact Bool.false_ne_true), condScan_iff, List.nodup_cons]
        constructor
        · rintro ⟨h1, h2, h3⟩
          refine ⟨fun q hq => ?_, ⟨fun h => h3 p h (by simp), h2⟩, fun q hq => ?_⟩
          · rcases List.mem_cons.mp hq with rfl | hq
            · exact e
            · exact h1 q hq
          · rcases List.mem_cons.mp hq with rfl | hq
            · exact e2
            · exact fun z => h3 q hq (List.mem_append_left _ z)
        · rintro ⟨h1, ⟨h2, h4⟩, h3⟩
          refine ⟨fun q hq => h1 q (.tail _ hq), h4, fun q hq z => ?_⟩
          rcases List.mem_append.mp z with z | z
          · exact h3 q (.tail _ hq) z
          · rw [List.mem_singleton.mp z] at hq
            exact h2 hq
theorem chgScan_iff : ∀ {ps : List Pc} {seen : List (Str × Str)} {i : Nat}, chgScan seen i (ps.map some) = none ↔ (∀ p ∈ ps, p.1.cond = false) ∧ (ps.map chg).Nodup ∧ ∀ p ∈ ps, chg p ∉ seen
  | [], seen, i => ⟨fun _ => ⟨(fun p h => nomatch h), .nil, (fun p h => nomatch h)⟩, fun _ => rfl⟩
  | p :: ps, seen, i => by
    show (if p.1.cond then some (i, Str.ofString "change") else (if decide (chg p ∈ seen) then some (i, Str.ofString "twice") else chgScan (seen ++ [chg p]) (i + 1) (ps.map some))) = none ↔ _
    cases e : p.1.cond with
    | true =>
      rw [if_pos rfl]
      exact ⟨(fun h => nomatch h), fun h => by have := h.1 p (.head _); rw [e] at this; cases this⟩
    | false =>
      rw [if_neg Bool.false_ne_true]
      by_cases e2 : chg p ∈ seen
      · rw [if_pos (decide_eq_true e2)]
        exact ⟨(fun h => nomatch h), fun h => absurd e2 (h.2.2 p (.head _))⟩
      · rw [if_neg (by rw [decide_eq_false e2]; exact Bool.false_ne_true), chgScan_iff, List.map_cons, List.nodup_cons]
        constructor
        · rintro ⟨h1, h2, h3⟩
          refine ⟨fun q hq => ?_, ⟨fun h => ?_, h2⟩, fun q hq => ?_⟩
          · rcases List.mem_cons.mp hq with rfl | hq
            · exact e
            · exact h1 q hq
          · obtain ⟨q, hq, eq⟩ := List.mem_map.mp h
            exact h3 q hq (by rw [eq]; simp)
          · rcases List.mem_cons.mp hq with rfl | hq
            · exact e2
            · exact fun z => h3 q hq (List.mem_append_left _ z)
        · rintro ⟨h1, ⟨h2, h4⟩, h3⟩
          refine ⟨fun q hq => h1 q (.tail _ hq), h4, fun q hq z => ?_⟩
          rcases List.mem_append.mp z with z | z
          · exact h3 q (.tail _ hq) z
          · exact h2 (List.mem_map.mpr ⟨q, hq, List.mem_singleton.mp z⟩)
/-- another order, or without the first -/
def Alt (xs ys : List Pc) : Prop := ys = xs ∨ ys = xs.drop 1 ++ xs.take 1 ∨ ys = xs.drop 1
theorem alt_sub {xs ys : List Pc} (h : Alt xs ys) : ys.length ≤ xs.length ∧ (∀ p ∈ ys, p ∈ xs) ∧ ∀ {α : Type} (f : Pc → α), (xs.map f).Nodup → (ys.map f).Nodup := by
  rcases h with rfl | rfl | rfl
  · exact ⟨Nat.le_refl _, fun p h => h, fun f h => h⟩
  · have pm : (xs.drop 1 ++ xs.take 1).Perm xs := (List.perm_append_comm).trans (by rw [List.take_append_drop])
    exact ⟨Nat.le_of_eq pm.length_eq, fun p h => pm.mem_iff.mp h, fun f h => ((pm.map f).nodup_iff).mpr h⟩
  · refine ⟨by rw [List.length_drop]; omega, fun p h => List.mem_of_mem_drop h, fun f h => ?_⟩
    rw [List.map_drop]
    exact h.sublist (List.drop_sublist _ _)
theorem alt_cond {xs ys : List Pc} (h : Alt xs ys) (d : condDue (some (xs.map some)) = none) : condDue (some (ys.map some)) = none := by
  obtain ⟨l, sc⟩ := condScan_of d
  obtain ⟨s1, s2, s3⟩ := alt_sub h
  obtain ⟨c1, c2, _⟩ := condScan_iff.mp sc
  show (if (ys.map some).length ≤ 6 then condScan [] 0 (ys.map some) else _) = none
  rw [if_pos (by rw [List.length_map]; omega)]
  have n := s3 id (by rw [List.map_id]; exact c2)
  rw [List.map_id] at n
  exact condScan_iff.mpr ⟨fun p hp => c1 p (s2 p hp), n, fun p _ z => nomatch z⟩
theorem alt_chg {xs ys : List Pc} (h : Alt xs ys) (d : chgDue (some (xs.map some)) = none) : chgDue (some (ys.map some)) = none := by
  have d : (if (xs.map some).length ≤ 8 then chgScan [] 0 (xs.map some) else some (0, Str.ofString "changes")) = none := d
  by_cases l : (xs.map some).length ≤ 8
  · rw [if_pos l] at d
    obtain ⟨s1, s2, s3⟩ := alt_sub h
    obtain ⟨c1, c2, _⟩ := chgScan_iff.mp d
    rw [List.length_map] at l
    show (if (ys.map some).length ≤ 8 then chgScan [] 0 (ys.map some) else _) = none
    rw [if_pos (by rw [List.length_map]; omega)]
    exact chgScan_iff.mpr ⟨fun p hp => c1 p (s2 p hp), s3 chg c2, fun p _ z => nomatch z⟩
  · rw [if_neg l] at d; cases d
theorem cut_d1 (xs : List V) : cutV xs (some (1 : Int)) none = xs.drop 1 := by
  cases xs with
  | nil => rfl
  | cons x xs => exact cut_drop (x :: xs) 1 (by simp)
theorem cut_t1 (xs : List V) : cutV xs none (some (1 : Int)) = xs.take 1 := by
  cases xs with
  | nil => rfl
  | cons x xs => exact cut_take (x :: xs) 1 (by simp)
theorem drop_paired {α β : Type} {F : α → β → Prop} {xs : List α} {ys : List β} (h : Paired F xs ys) (n : Nat) : Paired F (xs.drop n) (ys.drop n) := by
  induction h generalizing n with
  | nil => rw [List.drop_nil, List.drop_nil]; exact .nil
  | cons h t ih =>
    cases n with
    | zero => exact .cons h t
    | succ n => exact ih n
theorem rot_paired {F : V → Option Pc → Prop} {xs : List V} {ps : List Pc} (h : Paired F xs (ps.map some)) : Paired F (xs.drop 1 ++ xs.take 1) ((ps.drop 1 ++ ps.take 1).map some) := by
  rw [List.map_append, List.map_drop, List.map_take]
  exact paired_cat (drop_paired h 1) (take_paired h 1)
theorem drop1_paired {F : V → Option Pc → Prop} {xs : List V} {ps : List Pc} (h : Paired F xs (ps.map some)) : Paired F (xs.drop 1) ((ps.drop 1).map some) := by
  rw [List.map_drop]
  exact drop_paired h 1
/-! parts as data -/
def partsD (z : Str) (cs ds : List Pc) : PyData := .list [.str z, .list (cs.map dRow), .list (ds.map dRow)]
theorem eqv_rowsA : ∀ {xs ys : List Pc}, (∀ p ∈ xs, p.ok) → (∀ p ∈ ys, p.ok) → PyData.eqvAll (xs.map dRow) (ys.map dRow) = decide (xs = ys)
  | [], [], _, _ => rfl
  | [], _ :: _, _, _ => rfl
  | _ :: _, [], _, _ => rfl
  | x :: xs, y :: ys, h, h' => by
    show (PyData.eqv (dRow x) (dRow y) && PyData.eqvAll (xs.map dRow) (ys.map dRow)) = _
    rw [eqv_row (h x (.head _)) (h' y (.head _)), eqv_rowsA (fun z m => h z (.tail _ m)) fun z m => h' z (.tail _ m)]
    by_cases h1 : x = y <;> by_cases h2 : xs = ys <;> simp [h1, h2]
theorem eqv_parts {z z' : Str} {cs cs' ds ds' : List Pc} (h1 : ∀ p ∈ cs, p.ok) (h2 : ∀ p ∈ ds, p.ok) (h3 : ∀ p ∈ cs', p.ok) (h4 : ∀ p ∈ ds', p.ok) : PyData.eqv (partsD z cs ds) (partsD z' cs' ds') = decide (z = z' ∧ cs = cs' ∧ ds = ds') := by
  show (PyData.eqv (.str z) (.str z') && (PyData.eqvAll (cs.map dRow) (cs'.map dRow) && (PyData.eqvAll (ds.map dRow) (ds'.map dRow) && true))) = _
  rw [eqv_str, eqv_rowsA h1 h3, eqv_rowsA h2 h4]
  by_cases a : z = z' <;> by_cases b : cs = cs' <;> by_cases c : ds = ds' <;> simp [a, b, c]
theorem shaped_parts {z : Str} {cs ds : List Pc} (hz : PyData.strOk z = true) (h1 : ∀ p ∈ cs, p.ok) (h2 : ∀ p ∈ ds, p.ok) : SeqAt.shaped (partsD z cs ds) = true := by
  obtain ⟨a, b⟩ := lay_map (f := dRow) (n := 1) (xs := cs) fun p m => lay_row (h1 p m)
  obtain ⟨c, d⟩ := lay_map (f := dRow) (n := 1) (xs := ds) fun p m => lay_row (h2 p m)
  unfold SeqAt.shaped
  rw [Bool.and_eq_true]
  refine ⟨?_, decide_eq_true ?_⟩
  · show (PyData.canLay0 (.str z) && (PyData.canLayAll0 (cs.map dRow) && (PyData.canLayAll0 (ds.map dRow) && true))) = true
    rw [a, c, show PyData.canLay0 (.str z) = true from hz]
    rfl
  · show max 0 (max (PyData.depthAll (cs.map dRow) + 1) (max (PyData.depthAll (ds.map dRow) + 1) 0)) + 1 ≤ 64
    omega
theorem parts_dp {K : PySem.W.Frag} {H : Hp} {pa cl dl : Addr} {z : Str} {us vs : List V} {cs ds : List Pc} (h : H pa = some (.lst [.str z, .ref cl, .ref dl])) (h1 : H cl = some (.lst us)) (h2 : H dl = some (.lst vs)) (p1 : Paired (RowV H) us (cs.map some)) (p2 : Paired (RowV H) vs (ds.map some)) : Dp K H (.ref pa) (partsD z cs ds) :=
  .lst (SqL.of h) (.cons (.str _) (.cons (.lst (SqL.of h1) (rows_dp p1)) (.cons (.lst (SqL.of h2) (rows_dp p2)) .nil)))
def refD (i : Nat) (w : Str) : PyData := .tuple [.int i, .str w]
theorem lay_ref {i : Nat} {w : Str} (h : PyData.strOk w = true) : PyData.canLay0 (refD i w) = true := by
  show (true && (PyData.canLay0 (.str w) && true)) = true
  rw [show PyData.canLay0 (.str w) = true from h]
  rfl
theorem shaped_ref {i : Nat} {w : Str} (h : PyData.strOk w = true) : SeqAt.shaped (refD i w) = true := by
  unfold SeqAt.shaped
  rw [lay_ref h]
  exact decide_eq_true (by show max 0 (max 0 0) + 1 ≤ 64; decide)
theorem eqv_ref {i : Nat} {w : Str} (h : PyData.strOk w = true) : PyData.eqv (refD i w) (refD i w) = true := SeqAt.eqv_refl _ (lay_ref h)
theorem dp_ref {K : PySem.W.Frag} {H : Hp} {t : Addr} {i : Nat} {w : Str} (h : H t = some (.tup [.int i, .str w])) : Dp K H (.ref t) (refD i w) := .tup (SqT.of h) (.cons (.int _) (.cons (.str _) .nil))
theorem chgScan_word : ∀ {os : List (Option Pc)} {seen : List (Str × Str)} {i j : Nat} {w : Str}, chgScan seen i os = some (j, w) → PyData.strOk w = true
  | [], _, _, _, _, h => nomatch h
  | none :: _, _, _, _, _, h => by cases h; decide +kernel
  | some p :: os, seen, i, j, w, h => by
    have h : (if p.1.cond then some (i, Str.ofString "change") else (if decide (chg p ∈ seen) then some (i, Str.ofString "twice") else chgScan (seen ++ [chg p]) (i + 1) os)) = some (j, w) := h
    cases e : p.1.cond with
    | true => rw [e] at h; cases h; decide +kernel
    | false =>
      rw [e, if_neg Bool.false_ne_true] at h
      by_cases e2 : decide (chg p ∈ seen) = true
      · rw [if_pos e2] at h; cases h; decide +kernel
      · rw [if_neg e2] at h
        exact chgScan_word h
theorem clDue_word {kv : V} {co dos : Option (List (Option Pc))} {j : Nat} {w : Str} (h : clDue kv co dos = some (j, w)) : PyData.strOk w = true := by
  unfold clDue at h
  split at h
  · cases e : condDue co with
    | some r =>
      obtain ⟨i, w'⟩ := r
      rw [e] at h
      cases h
      exact condDue_word e
    | none =>
      rw [e] at h
      have h : chgDue dos = some (j, w) := h
      cases dos with
      | none => cases h; decide +kernel
      | some os =>
        have h : (if os.length ≤ 8 then chgScan [] 0 os else some (0, Str.ofString "changes")) = some (j, w) := h
        split at h
        · exact chgScan_word h
        · cases h; decide +kernel
  · cases h; decide +kernel
end Kx

set_option maxHeartbeats 16000000
namespace Kx
open PySem L2
/-- all that the law calls -/
structure All8 (P : Program) (w : World) (K : PySem.W.Frag) (mg : Str → Option Value) (base : Heap) (Cs : Pk → Addr) (Cc Ch Bc Bh CC CB fI gE pA gA e1 e2 : Addr) (fdI fdE fdA : FuncData) (ds1 ds2 : List Value) : Prop where
  hand : HasF P w K mg base "_law_hand" 1 ["_law_script"] (spHand K)
  draw : HDraw P w K mg base
  drawn : HasF P w K mg base "_law_drawn_piece" 5 ["_law_hand_here"] spDrawn
  tryp : HasF P w K mg base "_law_try_piece" 7 ["_law_row_here"] (spTryP Cs)
  pright : HasF P w K mg base "_law_piece_right" 7 ["_law_row_here", "_law_piece_here"] (spPRight Cs)
  cparts : HasF P w K mg base "_law_clause_parts" 5 ["_law_hand_here"] spParts
  cword : HasF P w K mg base "_law_clause_word" 2 ["_law_parts"] spCWord
  pieces : HasF P w K mg base "_law_pieces" 7 ["_law_rows"] (spPieces Cs)
  tryc : HasF P w K mg base "_law_try_clause" 6 ["_law_kind", "_law_conditions", "_law_changes"] (spTryC K Cs CC)
  cis : HasF P w K mg base "_law_clause_is" 3 ["_law_told", "_law_parts"] (spCIs K Cs CC)
  splits : HasF P w K mg base "_law_splits" 9 ["_law_hand_here", "_law_clause", "_law_parts"] (spSpl K Cs CC)
  PF : PieceF P w K mg base Cs Bc Bh
  PC : PkC K Cs
  EM : EqM P w K mg base Cs
  PM : PkM P w K mg base Cs Bc Bh
  nsi : ∀ k, PySem.W.kitAny K (.ref (Cs k)) [.type "str", .type "int"] = some false
  QX : QC K CC ["kind", "conditions", "changes"]
  M : ClM P w K mg base Cs CC CB fI fdI
  CE : OwnM P w K mg base CC "__eq__" 3 ["self", "other"] (spCEq K Cs CC) gE fdE
  neC : PySem.W.findIn K (.ref CC) "__ne__" = some (some (.builtin "object.__ne__"))
  nfc : PySem.W.notFirst K CC (.ref CC) = true
  nfs : PySem.W.notFirst K CC (.type "str") = true
  kst : PySem.W.kitOne K (.type "str") (.ref CC) = some false
  PA : PropOf K CC "arity" pA gA
  GA : FnOk P w K mg base CX0 1 gA fdA ["self"] (spAr K Cs CC)
  bA : Binds K fdA ["self"] []
  b1 : Binds K fdI ["self", "kind", "conditions", "changes"] ds1
  r1 : Vals [V.ref e1, V.ref e2] ds1
  b2 : Binds K fdI ["self", "kind", "conditions", "changes"] ds2
  r2 : Vals [V.ref e2] ds2
  s1 : ∀ H : Hp, IsSeq K H e1 []
  s2 : ∀ H : Hp, IsSeq K H e2 []
theorem offL_tup {H : Hp} {D t : Addr} {xs ys : List V} (hd : H D = some (.lst ys)) (ht : H t = some (.tup xs)) : wo D H t = some (.tup xs) := wo_at ht fun z => by rw [z, hd] at ht; cases ht
theorem offL_ins {H : Hp} {D t C dx : Addr} {fs : List (Str × V)} {ys : List V} (hd : H D = some (.lst ys)) (ht : H t = some (.ins C dx fs)) : wo D H t = some (.ins C dx fs) := wo_at ht fun z => by rw [z, hd] at ht; cases ht
theorem ne_lt {H : Hp} {D t : Addr} {xs ys : List V} (hd : H D = some (.lst ys)) (ht : H t = some (.tup xs)) : t ≠ D := fun z => by rw [z, hd] at ht; cases ht
theorem ne_li {H : Hp} {D t C dx : Addr} {fs : List (Str × V)} {ys : List V} (hd : H D = some (.lst ys)) (ht : H t = some (.ins C dx fs)) : t ≠ D := fun z => by rw [z, hd] at ht; cases ht
theorem PcA.offL {Cs : Pk → Addr} {H : Hp} {D a : Addr} {ys : List V} {k : Pk} {args : List V} (hd : H D = some (.lst ys)) (h : PcA Cs H a k args) : PcA Cs (wo D H) a k args := ⟨h.ob.imp fun dx e => offL_ins hd e, h.good⟩
theorem ClA.offL {K : PySem.W.Frag} {Cs : Pk → Addr} {CC : Addr} {H : Hp} {D a : Addr} {ys : List V} {z : Str} {cs ds : List Pc} (hd : H D = some (.lst ys)) (h : ClA K Cs CC H a z cs ds) : ClA K Cs CC (wo D H) a z cs ds := by
  obtain ⟨⟨dx, ca, da, us, vs, h1, h2, h3, h4, h5⟩, l, c, d⟩ := h
  have pv : ∀ {x : V} {y : Pc}, PcV Cs H x y → PcV Cs (wo D H) x y := fun ⟨a, e, q⟩ => ⟨a, e, q.offL hd⟩
  have tq : ∀ {b : Addr} {ws : List V}, TupQ K H b ws → TupQ K (wo D H) b ws := fun h => h.imp (fun h => offL_tup hd h) id
  exact ⟨⟨dx, ca, da, us, vs, offL_ins hd h1, tq h2, tq h3, pr_imp h4 fun _ _ q => pv q, pr_imp h5 fun _ _ q => pv q⟩, l, c, d⟩
/-- a made piece with its row -/
def Kept (Cs : Pk → Addr) (N : Hp) (x : V) (p : Pc) : Prop := ∃ t r a, x = .ref t ∧ N t = some (.tup [.ref r, .ref a]) ∧ RowA N r p ∧ PcA Cs N a p.1 p.2
theorem Kept.keep {Cs : Pk → Addr} {H H' : Hp} {x : V} {p : Pc} (h : Kept Cs H x p) (s : Same H H') : Kept Cs H' x p := by
  obtain ⟨t, r, a, e, h1, h2, h3⟩ := h
  exact ⟨t, r, a, e, s _ _ h1, s _ _ h2, h3.keep s⟩
theorem due1 : clDue (.str "a") none (some []) = some (0, Str.ofString "conditions") := by decide +kernel
theorem due2 : clDue (.str "a") (some []) none = some (0, Str.ofString "changes") := by decide +kernel
def grantP : Pc := (.put, [V.str "owner", V.str "first"])
theorem due3 : clDue (.str "grant") (some []) (some [some grantP]) = none := by decide +kernel
theorem grant_ok : grantP.ok := (by decide +kernel : Sh.pw .s [V.str "owner", V.str "first"] = none)
theorem spCl_ok {K : PySem.W.Frag} {Cs : Pk → Addr} {CC CB : Addr} {H : Hp} {x dx : Addr} (hx : H x = none) (hdx : H dx = none) (ne : dx ≠ x) {z : Str} (hz : isLab z = true) {cv dv : V} {cs ds : List Pc} (hc : SeqIs K Cs H cv (some (cs.map some))) (hd : SeqIs K Cs H dv (some (ds.map some))) (h1 : condDue (some (cs.map some)) = none) (h2 : chgDue (some (ds.map some)) = none) {Q : VK} {E : XK} (h : ∀ H', Same H H' → ClA K Cs CC H' x z cs ds → Q .non H') :
    spCl K Cs CC CB [.ref x, .str z, cv, dv] (upd (upd H dx (.own x)) x (.ins CC dx [])) Q E := by
  have s0 : Same H (upd (upd H dx (.own x)) x (.ins CC dx [])) := (sameUpd (Same.refl _) hdx).trans (sameUpd (Same.refl _) (by rw [upd_ne ne.symm]; exact hx))
  have sN : Same H (wo x (upd (upd H dx (.own x)) x (.ins CC dx []))) := fun b u e => wo_at (s0 _ _ e) (ne_of_none e hx)
  refine ⟨x, dx, .str z, cv, dv, "str", some (cs.map some), some (ds.map some), rfl, upd_same, lab_thing hz, hc.keep sN, hd.keep sN, ?_⟩
  have due : clDue (.str z) (some (cs.map some)) (some (ds.map some)) = none := by
    unfold clDue
    rw [show labV (.str z) = true from hz, if_pos rfl, h1]
    exact h2
  rw [due]
  intro z' cs' ds' H' e1 e2 e3 kp cl
  cases e1
  have e2 := map_some_inj (Option.some.inj e2)
  have e3 := map_some_inj (Option.some.inj e3)
  subst e2
  subst e3
  exact h H' (fun b o e => kp b o (s0 b o e) (ne_of_none e hx)) cl
abbrev NLaw : List Str := ["_law_script", "_law_hand_here", "_law_kept", "_law_turn", "_law_row_here", "_law_word", "_law_told", "_law_one_here", "_law_first", "_law_two", "_law_second", "_law_parts", "_law_due", "_law_lists", "_law_odd", "_law_other", "_law_at"]
theorem scLaw : FnScope NLaw ["_law_script"] (defScope sLaw) := ⟨rfl, rfl, rfl, by decide +kernel, rfl, by decide +kernel, by decide +kernel⟩
theorem law_body {P : Program} {w : World} {K : PySem.W.Frag} {mg : Str → Option Value} {base : Heap} {Cs : Pk → Addr} {Cc Ch Bc Bh CC CB fI gE pA gA e1 e2 fa : Addr} {fdI fdE fdA : FuncData} {ds1 ds2 : List Value} (T : Bl mg) (B : Bm mg) (A : All8 P w K mg base Cs Cc Ch Bc Bh CC CB fI gE pA gA e1 e2 fdI fdE fdA ds1 ds2) : LawBody P w K mg base NLaw "law" sLaw fa 9 := by
  intro cdv s H a ns hr hS hn
  obtain ⟨f1, fd1, Hd⟩ := A.hand; obtain ⟨f2, fd2, D⟩ := A.draw; obtain ⟨f3, fd3, Dr⟩ := A.drawn; obtain ⟨f4, fd4, Tp⟩ := A.tryp; obtain ⟨f5, fd5, Pr⟩ := A.pright; obtain ⟨f6, fd6, Cp⟩ := A.cparts; obtain ⟨f7, fd7, Cw⟩ := A.cword; obtain ⟨f8, fd8, Ps⟩ := A.pieces; obtain ⟨f9, fd9, Tc⟩ := A.tryc; obtain ⟨f10, fd10, Ci⟩ := A.cis; obtain ⟨f11, fd11, Sp⟩ := A.splits; obtain ⟨f12, fd12, m12, k12, b12, G12⟩ := A.PF
  obtain ⟨gz, dz, MZ⟩ := A.PM.mki .zero (by decide)
  have MS := A.PM.mk0 .same rfl
  have mS := A.PM.m .same
  have EM := A.EM
  have hr1 : Room 1 _ := hr.mono (by decide)
  have hr2 : Room 2 _ := hr.mono (by decide)
  have hr3 : Room 3 _ := hr.mono (by decide)
  have hr4 : Room 4 _ := hr.mono (by decide)
  have hr5 : Room 5 _ := hr.mono (by decide)
  have hr6 : Room 6 _ := hr.mono (by decide)
  have hr7 : Room 7 _ := hr.mono (by decide)
  refine ⟨_, (C8.pss_cut (ps_set (i := 1) scLaw.nd rfl (Or.inl rfl) (pe_call Hd.G hr1 (by rfl) Hd.m Hd.kp Hd.b .nil pass0 (pa_cons (pv 0) pa_nil)))
    (C8.pss_cut (ps_set (i := 2) scLaw.nd rfl (Or.inl rfl) (pe_lst pa_nil))
    (C8.pss_cut (ps_for PassesOwn.never rfl (pi_range1 (by rfl) T.range (pa_cons pe_int pa_nil)) (pg_name (i := 3) scLaw.nd rfl (.inl rfl))
      (C8.pss_cut (ps_asg (pe_call Dr.G hr5 (by rfl) Dr.m Dr.kp Dr.b .nil pass0 (pa_cons (pv 1) pa_nil)) (pg_tup rfl (pgs_cons (pg_name (i := 4) scLaw.nd rfl (.inl rfl)) (pgs_cons (pg_name (i := 5) scLaw.nd rfl (.inl rfl)) pgs_nil))))
    (C8.pss_cut (ps_set (i := 6) scLaw.nd rfl (Or.inl rfl) (pe_call Tp.G hr7 (by rfl) Tp.m Tp.kp Tp.b .nil pass0 (pa_cons (pv 4) pa_nil)))
    (pss_one (ps_if (pt_cmpR op_notN (pv 5) pe_non (nomark _)) (pss_one (ps_if (pt_cmpR op_ne (pv 6) (pv 5) (nomark _)) (pss_one ps_never) pss_nil))
          (pss_one (ps_if (PW.pt (pw_or (pt_val (pe_callB call_isiT (by rfl) B.isinstance (by decide +kernel) (pa_cons (pv 6) (pa_cons (pe_tup (pa_cons (pe_bltn (v := .ty "str") (by rfl) B.str (by decide +kernel) rfl) (pa_cons (pe_bltn (v := .ty "int") (by rfl) T.int (by decide +kernel) rfl) pa_nil))) pa_nil)))) (pw_or1 (pt_not (pt_val (pe_call Pr.G hr7 (by rfl) Pr.m Pr.kp Pr.b .nil pass0 (pa_cons (pv 4) (pa_cons (pv 6) pa_nil)))))))) (pss_one ps_never) (pss_one (ps_expr (pe_bm PySem.F.plainAttrs_list PySem.F.slot_list_append PySem.F.type_list_append mt_append (pv 2) (pa_cons (pe_tup (pa_cons (pv 4) (pa_cons (pv 6) pa_nil))) pa_nil)))))))))))
    (C8.pss_cut (ps_for PassesOwn.never rfl (pi_list (pv 2)) (pg_tup rfl (pgs_cons (pg_name (i := 7) scLaw.nd rfl (.inl rfl)) (pgs_cons (pg_name (i := 8) scLaw.nd rfl (.inl rfl)) pgs_nil)))
      (pss_one (ps_for PassesOwn.never rfl (pi_list (pv 2)) (pg_tup rfl (pgs_cons (pg_name (i := 9) scLaw.nd rfl (.inl rfl)) (pgs_cons (pg_name (i := 10) scLaw.nd rfl (.inl rfl)) pgs_nil)))
        (pss_one (ps_if (PW.pt (pw_or (pt_cmpR op_ne (pe_cmpR (op_eqP (Cs := Cs) EM hr1) (pv 8) (pv 10) (nomark _)) (pe_cmpR (op_eqD hr.units) (pv 7) (pv 9) (nomark _)) (nomark _)) (pw_or (pt_cmpR op_ne (pe_cmpR (op_eqP (Cs := Cs) EM hr1) (pv 8) (pe_call G12 hr6 (by rfl) m12 k12 b12 .nil passL (pa_cons (pv 9) pa_nil)) (nomark _)) (pe_cmpR (op_eqD hr.units) (pv 7) (pv 9) (nomark _)) (nomark _)) (pw_or1 (pt_cmpR (op_eqP (Cs := Cs) EM hr1) (pv 8) (pv 9) (nomark _)))))) (pss_one ps_never) pss_nil)))))
    (C8.pss_cut (ps_set (i := 11) scLaw.nd rfl (Or.inl rfl) (pe_call Cp.G hr5 (by rfl) Cp.m Cp.kp Cp.b .nil pass0 (pa_cons (pv 1) pa_nil)))
    (C8.pss_cut (ps_set (i := 12) scLaw.nd rfl (Or.inl rfl) (pe_call Cw.G hr2 (by rfl) Cw.m Cw.kp Cw.b .nil pass0 (pa_cons (pv 11) pa_nil)))
    (C8.pss_cut (ps_set (i := 13) scLaw.nd rfl (Or.inl rfl) (pe_lst (pa_cons (pe_call Ps.G hr7 (by rfl) Ps.m Ps.kp Ps.b .nil pass0 (pa_cons (pe_ix ix_list (pv 11) pe_int (fun _ _ => rfl)) pa_nil)) (pa_cons (pe_call Ps.G hr7 (by rfl) Ps.m Ps.kp Ps.b .nil pass0 (pa_cons (pe_ix ix_list (pv 11) pe_int (fun _ _ => rfl)) pa_nil)) pa_nil))))
    (C8.pss_cut (ps_set (i := 6) scLaw.nd rfl (Or.inl rfl) (pe_call Tc.G hr6 (by rfl) Tc.m Tc.kp Tc.b .nil pass0 (pa_cons (pe_ix ix_list (pv 11) pe_int (fun _ _ => rfl)) (pa_cons (pe_ix ix_list (pv 13) pe_int (fun _ _ => rfl)) (pa_cons (pe_ix ix_list (pv 13) pe_int (fun _ _ => rfl)) pa_nil)))))
    (C8.pss_cut (ps_if (pt_cmpR op_notN (pv 12) pe_non (nomark _)) (C8.pss_cut (ps_if (pt_cmpR (op_neD hr.units) (pv 6) (pv 12) (nomark _)) (pss_one ps_never) pss_nil)
    (C8.pss_cut (ps_for PassesOwn.never rfl (pi_tup (pe_tup (pa_cons pe_non (pa_cons pe_str (pa_cons pe_dnewK (pa_cons (pe_call G12 hr6 (by rfl) m12 k12 b12 .nil passL (pa_cons (pe_tup (pa_cons pe_str pa_nil)) pa_nil)) pa_nil)))))) (pg_name (i := 14) scLaw.nd rfl (.inl rfl))
          (pss_one (ps_if (PW.pt (pw_or (pt_cmpR (op_neD hr.units) (pe_call Tc.G hr6 (by rfl) Tc.m Tc.kp Tc.b .nil pass0 (pa_cons pe_str (pa_cons (pv 14) (pa_cons (pe_lst pa_nil) pa_nil)))) (pe_tup (pa_cons pe_int (pa_cons pe_str pa_nil))) (nomark _)) (pw_or1 (pt_cmpR (op_neD hr.units) (pe_call Tc.G hr6 (by rfl) Tc.m Tc.kp Tc.b .nil pass0 (pa_cons pe_str (pa_cons (pe_tup pa_nil) (pa_cons (pv 14) pa_nil)))) (pe_tup (pa_cons pe_int (pa_cons pe_str pa_nil))) (nomark _))))) (pss_one ps_never) pss_nil)))
    (C8.pss_cut (ps_set (i := 11) scLaw.nd rfl (Or.inl rfl) (pe_lst (pa_cons pe_str (pa_cons (pe_slice sl_list (pe_ix ix_list (pv 11) pe_int (fun _ _ => rfl)) po_none (po_some pe_int)) (pa_cons (pe_lst (pa_cons (pe_tup (pa_cons pe_str (pa_cons pe_str (pa_cons pe_str pa_nil)))) pa_nil)) pa_nil)))))
    (C8.pss_cut (ps_set (i := 13) scLaw.nd rfl (Or.inl rfl) (pe_lst (pa_cons (pe_lst pa_nil) (pa_cons (pe_lst (pa_cons (pe_call G12 hr6 (by rfl) m12 k12 b12 .nil passL (pa_cons (pe_ix ix_list (pe_ix ix_list (pv 11) pe_int (fun _ _ => rfl)) pe_int (fun _ _ => rfl)) pa_nil)) pa_nil)) pa_nil))))
    (pss_one (ps_set (i := 6) scLaw.nd rfl (Or.inl rfl) (pe_call Tc.G hr6 (by rfl) Tc.m Tc.kp Tc.b .nil pass0 (pa_cons (pe_ix ix_list (pv 11) pe_int (fun _ _ => rfl)) (pa_cons (pe_ix ix_list (pv 13) pe_int (fun _ _ => rfl)) (pa_cons (pe_ix ix_list (pv 13) pe_int (fun _ _ => rfl)) pa_nil)))))))))) pss_nil)
    (C8.pss_cut (ps_expr (pe_bm PySem.F.plainAttrs_list PySem.F.slot_list_append PySem.F.type_list_append mt_append (pe_ix ix_list (pv 13) pe_int (fun _ _ => rfl)) (pa_cons pe_non pa_nil)))
    (C8.pss_cut (ps_expr (pe_bm PySem.F.plainAttrs_list PySem.F.slot_list_insert PySem.F.type_list_insert mt_insert (pe_ix ix_list (pv 13) pe_int (fun _ _ => rfl)) (pa_cons pe_int (pa_cons (pe_make MZ.MK MZ.G hr5 (by rfl) MZ.m MZ.b .nil passL (pa_cons pe_str pa_nil)) pa_nil))))
    (C8.pss_cut (ps_if (PW.pt (pw_or (pt_not (pt_val (pe_call Ci.G hr3 (by rfl) Ci.m Ci.kp Ci.b .nil pass0 (pa_cons (pv 6) (pa_cons (pv 11) pa_nil))))) (pw_or (pt_not (pt_val (pe_call Sp.G hr (by rfl) Sp.m Sp.kp Sp.b .nil pass0 (pa_cons (pv 1) (pa_cons (pv 6) (pa_cons (pv 11) pa_nil)))))) (pw_or1 (pt_not (pt_val (pe_call Ci.G hr3 (by rfl) Ci.m Ci.kp Ci.b .nil pass0 (pa_cons (pv 6) (pa_cons (pv 11) pa_nil))))))))) (pss_one ps_never) pss_nil)
    (C8.pss_cut (ps_set (i := 15) scLaw.nd rfl (Or.inl rfl) (pe_lst (pa_cons (pe_ix ix_list (pv 11) pe_int (fun _ _ => rfl)) (pa_cons (pe_callTy call_list_of (by rfl) B.list (by decide +kernel) (pa_cons (pe_ix ix_list (pv 11) pe_int (fun _ _ => rfl)) pa_nil)) (pa_cons (pe_callTy call_list_of (by rfl) B.list (by decide +kernel) (pa_cons (pe_ix ix_list (pv 11) pe_int (fun _ _ => rfl)) pa_nil)) pa_nil)))))
    (C8.pss_cut (ps_set (i := 16) scLaw.nd rfl (Or.inl rfl) (pe_call D.G hr2 (by rfl) D.m D.kp D.b .nil pass0 (pa_cons (pv 1) (pa_cons pe_int pa_nil))))
    (C8.pss_cut (ps_asg (pe_ifExp (pt_cmpR op_eq (pv 16) pe_int (nomark _)) pe_str (pe_ifExp (pt_cmpR op_eq (pe_call D.G hr2 (by rfl) D.m D.kp D.b .nil pass0 (pa_cons (pv 1) (pa_cons pe_int pa_nil))) pe_int (nomark _)) (pe_op op_cat (pe_slice sl_list (pe_ix ix_list (pv 15) (pv 16) (fun _ _ => rfl)) (po_some pe_int) po_none) (pe_slice sl_list (pe_ix ix_list (pv 15) (pv 16) (fun _ _ => rfl)) po_none (po_some pe_int))) (pe_slice sl_list (pe_ix ix_list (pv 15) (pv 16) (fun _ _ => rfl)) (po_some pe_int) po_none))) (pg_sub (pv 15) (pv 16) set_list))
    (C8.pss_cut (ps_set (i := 10) scLaw.nd rfl (Or.inl rfl) (pe_call Tc.G hr6 (by rfl) Tc.m Tc.kp Tc.b .nil pass0 (pa_cons (pe_ix ix_list (pv 15) pe_int (fun _ _ => rfl)) (pa_cons (pe_callTy call_tuple_of (by rfl) B.tuple (by decide +kernel) (pa_cons (pe_call Ps.G hr7 (by rfl) Ps.m Ps.kp Ps.b .nil pass0 (pa_cons (pe_ix ix_list (pv 15) pe_int (fun _ _ => rfl)) pa_nil)) pa_nil)) (pa_cons (pe_callTy call_tuple_of (by rfl) B.tuple (by decide +kernel) (pa_cons (pe_call Ps.G hr7 (by rfl) Ps.m Ps.kp Ps.b .nil pass0 (pa_cons (pe_ix ix_list (pv 15) pe_int (fun _ _ => rfl)) pa_nil)) pa_nil)) pa_nil)))))
    (C8.pss_cut (ps_if (PW.pt (pw_or (pt_cmpR op_ne (pe_cmpR (op_eqX A.CE.M.at_ A.CE.M.fn A.CE.raw hr3 pass0) (pv 10) (pv 6) (nomark _)) (pe_cmpR (op_eqD hr.units) (pv 15) (pv 11) (nomark _)) (nomark _)) (pw_or1 (pt_cmpR (op_eqX A.CE.M.at_ A.CE.M.fn A.CE.raw hr3 pass0) (pv 6) (pe_ix ix_list (pv 11) pe_int (fun _ _ => rfl)) (nomark _))))) (pss_one ps_never) pss_nil)
    (pss_one (ps_ret (pe_and (pe_cmpR (op_eqX A.CE.M.at_ A.CE.M.fn A.CE.raw hr3 pass0) (pe_make A.M.MK A.M.GI hr5 (by rfl) A.M.m A.b1 A.r1 passL (pa_cons pe_str pa_nil)) (pe_make A.M.MK A.M.GI hr5 (by rfl) A.M.m A.M.bI .nil passL (pa_cons pe_str (pa_cons (pe_lst pa_nil) (pa_cons (pe_tup pa_nil) pa_nil)))) (nomark _))
      (pe_and (pe_cmpR op_eq (pe_prop (pe_make A.M.MK A.M.GI hr5 (by rfl) A.M.m A.b1 A.r1 passL (pa_cons pe_str pa_nil)) A.QX.cl A.PA A.GA hr2 A.bA .nil pass0 (by rfl)) pe_int (nomark _))
        (pe_one (pe_cmpR (op_neX A.QX.cm A.neC A.CE.M.at_ A.CE.M.fn A.CE.raw hr4 pass0) (pe_make A.M.MK A.M.GI hr5 (by rfl) A.M.m A.b1 A.r1 passL (pa_cons pe_str pa_nil)) (pe_make A.M.MK A.M.GI hr5 (by rfl) A.M.m A.b2 A.r2 passL (pa_cons pe_str (pa_cons (pe_lst (pa_cons (pe_make00 MS (by rfl) mS) pa_nil)) pa_nil))) (nomark _)))))))))))))))))))))))), ?_⟩
  refine ⟨fun σ H1 => ∃ p q, σ = [some (.ref a), some (.ref p), none, none, none, none, none, none, none, none, none, none, none, none, none, none, none] ∧ HandAt H1 p q, ?_, ?_⟩
  · exact ⟨_, rfl, a, ns, rfl, hS, hn, fun p q H1 _ _ _ hp1 _ => ⟨p, q, rfl, hp1⟩⟩
  rintro σ H1 ⟨p, q, rfl, hp1⟩
  refine ⟨fun σ H2 => ∃ kl, σ = [some (.ref a), some (.ref p), some (.ref kl), none, none, none, none, none, none, none, none, none, none, none, none, none, none] ∧ HandAt H2 p q ∧ kl ≠ p ∧ kl ≠ q ∧ H2 kl = some (.lst []), ?_, ?_⟩
  · exact ⟨Nat.zero_le _, fun kl hkl => ⟨kl, rfl, hp1.upd (hp1.ap hkl) (hp1.aq hkl), hp1.ap hkl, hp1.aq hkl, upd_same⟩⟩
  rintro σ H2 ⟨kl, rfl, hp2, klp, klq, hkl2⟩
  -- six pieces
  refine ⟨fun σ H3 => ∃ (v3 v4 v5 v6 : Option V) (xs : List V) (ps : List Pc), σ = [some (.ref a), some (.ref p), some (.ref kl), v3, v4, v5, v6, none, none, none, none, none, none, none, none, none, none] ∧ HandAt H3 p q ∧ H3 kl = some (.lst xs) ∧ Paired (Kept Cs (wo kl (wo p H3))) xs ps ∧ xs.length ≤ 6, ?_, ?_⟩
  · refine ⟨_, rfl, by omega, by omega, for_range (n := 6) (fun i σ H3 => ∃ (v3 v4 v5 v6 : Option V) (xs : List V) (ps : List Pc), σ = [some (.ref a), some (.ref p), some (.ref kl), v3, v4, v5, v6, none, none, none, none, none, none, none, none, none, none] ∧ HandAt H3 p q ∧ H3 kl = some (.lst xs) ∧ Paired (Kept Cs (wo kl (wo p H3))) xs ps ∧ xs.length ≤ i)
      ⟨none, none, none, none, [], [], rfl, hp2, hkl2, .nil, Nat.le_refl _⟩ ?_ (fun σ H3 h => h)⟩
    rintro i σ H3 hi ⟨v3, v4, v5, v6, xs, ps, rfl, hp3, hkl3, px, lx⟩
    refine ⟨fun σ Ha => ∃ (v3 v6 : Option V) (r : Addr) (k : Pk) (args : List V), σ = [some (.ref a), some (.ref p), some (.ref kl), v3, some (.ref r), some (wordV (k.pw args)), v6, none, none, none, none, none, none, none, none, none, none] ∧ HandAt Ha p q ∧ Ha kl = some (.lst xs) ∧ Paired (Kept Cs (wo kl (wo p Ha))) xs ps ∧ wo p Ha r = some (.tup (.str k.word :: args)) ∧ args.length = k.names.length ∧ Things (wo p Ha) args, ?_, ?_⟩
    · refine ⟨_, rfl, p, q, rfl, hp3, fun t r k args Ha ht hr' hl ta hpa ka => ?_⟩
      exact ⟨t, _, rfl, SqT.of (wo_same _ _ ht), rfl, _, _, rfl, _, _, rfl, rfl, _, _, r, k, args, rfl, hpa, ka _ _ hkl3 klp, pr_imp px fun _ _ q => q.keep (wo2k ka), hr', hl, ta⟩
    rintro σ Ha ⟨v3, v6, r, k, args, rfl, hpa, hkla, pxa, hrow, hl, ta⟩
    refine ⟨fun σ Hb => ∃ x, σ = [some (.ref a), some (.ref p), some (.ref kl), v3, some (.ref r), some (wordV (k.pw args)), some x, none, none, none, none, none, none, none, none, none, none] ∧ Same Ha Hb ∧ (match k.pw args with
        | none => ∃ ap, x = .ref ap ∧ PcA Cs Hb ap k args
        | some w => x = .str w), ?_, ?_⟩
    · refine ⟨_, rfl, r, k, args, rfl, wo_same _ _ hrow, hl, ta.keep wo_same, ?_⟩
      cases e : k.pw args with
      | none => exact fun ap Hb _ sb hb => ⟨.ref ap, rfl, sb, ⟨ap, rfl, hb⟩⟩
      | some w => exact fun Hb sb => ⟨.str w, rfl, sb, rfl⟩
    rintro σ Hb ⟨x, rfl, sb, hx⟩
    have hpb := hpa.same sb
    have hklb := sb _ _ hkla
    have pxb : Paired (Kept Cs (wo kl (wo p Hb))) xs ps := pr_imp pxa fun _ _ q => q.keep (wo2k (Same.keep sb))
    cases e : k.pw args with
    | some wd =>
      rw [e] at hx
      have hx : x = .str wd := hx
      subst hx
      refine ⟨_, rfl, rfl, _, rfl, iteT ?_⟩
      refine ⟨_, rfl, _, rfl, rfl, _, rfl, ?_⟩
      rw [show (!decide (V.str wd = wordV (some wd))) = false by simp [wordV]]
      exact iteF ⟨_, _, _, _, xs, ps, rfl, hpb, hklb, pxb, by omega⟩
    | none =>
      rw [e] at hx
      obtain ⟨ap, rfl, hap⟩ := hx
      obtain ⟨dx, eap⟩ := hap.ob
      refine ⟨_, rfl, rfl, _, rfl, iteF ?_⟩
      refine ⟨_, rfl, (by show 2 ≤ sizeLine; decide), fun t ht => ?_⟩
      have st := sameUpd (o := .tup [V.ty "str", V.ty "int"]) (Same.refl Hb) ht
      refine ⟨_, t, _, _, _, _, rfl, upd_same, .cons (.ty _) (.cons (.ty _) .nil), (A.PC.q _).ty (st _ _ eap), A.nsi _, _, rfl, iteF ?_⟩
      have hrb := (sb.trans st) _ _ (wo_same _ _ hrow)
      refine ⟨_, rfl, _, rfl, r, ap, (k, args), rfl, hrb, hap.keep st, fun Hc sc => ⟨_, rfl, iteF ?_⟩⟩
      have sbc := st.trans sc
      refine ⟨_, rfl, .inl ⟨rfl, _, SqL.of (sbc _ _ hklb)⟩, _, rfl, _, rfl, (by show 2 ≤ sizeLine; decide), fun t2 ht2 => ?_⟩
      have s2 := sameUpd (o := .tup [V.ref r, .ref ap]) (Same.refl Hc) ht2
      have sbd := sbc.trans s2
      have hkld := sbd _ _ hklb
      have hpd := hpb.same sbd
      refine ⟨kl, _, _, rfl, rfl, hkld, line2 (by omega), _, _, _, _, xs ++ [.ref t2], ps ++ [(k, args)], rfl, hpd.upd klp klq, upd_same, ?_, by simp; omega⟩
      refine paired_app (pr_imp pxb fun _ _ q => q.keep ((wo2k (Same.keep sbd)).trans (wo2 (Same.refl _)))) ⟨t2, r, ap, rfl, ?_, ?_, ?_⟩
      · exact wo2 (Same.refl _) _ _ (wo_at (off_tup hpd upd_same) (ne_of_none (sbc _ _ hklb) ht2).symm)
      · exact wo2 (Same.refl _) _ _ (wo_at (off_tup hpd ((sc.trans s2) _ _ hrb)) (ne_lt hkld ((sc.trans s2) _ _ hrb)))
      · exact ⟨⟨dx, wo2 (Same.refl _) _ _ (wo_at (off_ins hpd (sbd _ _ eap)) (ne_li hkld (sbd _ _ eap)))⟩, hap.good⟩
  rintro σ H3 ⟨v3, v4, v5, v6, xs, ps, rfl, hp3, hkl3, px, lx⟩
  have px3 : Paired (Kept Cs H3) xs ps := pr_imp px fun _ _ q => (q.keep wo_same).keep wo_same
  -- each with each
  refine ⟨fun σ H4 => ∃ v7 v8 v9 v10, σ = [some (.ref a), some (.ref p), some (.ref kl), v3, v4, v5, v6, v7, v8, v9, v10, none, none, none, none, none, none] ∧ Same H3 H4, ?_, ?_⟩
  · refine ⟨_, rfl, kl, rfl, ⟨_, SqL.of hkl3⟩, for_list (K := K) (a := kl) (xs := xs) (fun i σ H4 => ∃ v7 v8 v9 v10, σ = [some (.ref a), some (.ref p), some (.ref kl), v3, v4, v5, v6, v7, v8, v9, v10, none, none, none, none, none, none] ∧ Same H3 H4)
      ⟨none, none, none, none, rfl, Same.refl _⟩ (fun i σ H4 _ ⟨_, _, _, _, _, s⟩ => SqL.of (s _ _ hkl3)) ?_ (fun σ H4 h => h)⟩
    rintro i x σ H4 hi ⟨v7, v8, v9, v10, rfl, s4⟩
    obtain ⟨p1, hp1', t1, r1, a1, rfl, ht1, hr1', ha1⟩ := Paired.at px3 hi
    refine ⟨t1, _, rfl, SqT.of (s4 _ _ ht1), rfl, _, _, rfl, _, _, rfl, rfl, ?_⟩
    refine ⟨_, rfl, kl, rfl, ⟨_, SqL.of (s4 _ _ hkl3)⟩, for_list (K := K) (a := kl) (xs := xs) (fun j σ H5 => ∃ v9 v10, σ = [some (.ref a), some (.ref p), some (.ref kl), v3, v4, v5, v6, some (.ref r1), some (.ref a1), v9, v10, none, none, none, none, none, none] ∧ Same H3 H5)
      ⟨v9, v10, rfl, s4⟩ (fun i σ H4 _ ⟨_, _, _, s⟩ => SqL.of (s _ _ hkl3)) ?_ (fun σ H5 ⟨v9, v10, h, s⟩ => ⟨_, _, v9, v10, h, s⟩)⟩
    rintro j y σ H5 hj ⟨v9, v10, rfl, s5⟩
    obtain ⟨p2, hp2', t2, r2, a2, rfl, ht2, hr2', ha2⟩ := Paired.at px3 hj
    refine ⟨t2, _, rfl, SqT.of (s5 _ _ ht2), rfl, _, _, rfl, _, _, rfl, rfl, ?_⟩
    obtain ⟨dx1, ea1⟩ := ha1.ob
    obtain ⟨dx2, ea2⟩ := ha2.ob
    have eqv := eqv_row ha1.good ha2.good
    have both : (!decide (V.bl (decide (p1.1 = p2.1 ∧ p1.2 = p2.2)) = V.bl (PyData.eqv (dRow p1) (dRow p2)))) = false := by
      rw [eqv, show decide (p1.1 = p2.1 ∧ p1.2 = p2.2) = decide (p1 = p2) from decide_eq_decide.mpr ⟨fun ⟨e1, e2⟩ => Prod.ext e1 e2, fun e => by rw [e]; exact ⟨rfl, rfl⟩⟩]
      simp
    refine ⟨_, rfl, _, rfl, p1.1, a1, dx1, _, _, rfl, s5 _ _ ea1, (A.PC.q _).ty (s5 _ _ ea2), A.PC.nf _ _, a1, .ref a2, p1.2, rfl, ha1.keep s5, .inl ⟨a2, p2.1, p2.2, rfl, ha2.keep s5, _, rfl, ?_⟩⟩
    refine ⟨_, rfl, _, rfl, dRow p1, dRow p2, RowA.dp (s5 _ _ hr1') ha1.good, RowA.dp (s5 _ _ hr2') ha2.good, shaped_row ha1.good, shaped_row ha2.good, rfl, _, rfl, ?_⟩
    rw [both]
    refine iteF ⟨_, rfl, _, rfl, r2, p2.1, p2.2, rfl, s5 _ _ hr2', (good_args ha2.good).1, good_things ha2.good, ?_⟩
    unfold PieceOut
    rw [show p2.1.pw p2.2 = none from ha2.good]
    intro a3 H6 _ s6 ha3
    have s36 := s5.trans s6
    obtain ⟨dx3, ea3⟩ := ha3.ob
    refine ⟨p1.1, a1, dx1, _, _, rfl, s36 _ _ ea1, (A.PC.q _).ty ea3, A.PC.nf _ _, a1, .ref a3, p1.2, rfl, ha1.keep s36, .inl ⟨a3, p2.1, p2.2, rfl, ha3, _, rfl, ?_⟩⟩
    refine ⟨_, rfl, _, rfl, dRow p1, dRow p2, RowA.dp (s36 _ _ hr1') ha1.good, RowA.dp (s36 _ _ hr2') ha2.good, shaped_row ha1.good, shaped_row ha2.good, rfl, _, rfl, ?_⟩
    rw [both]
    refine iteF ⟨_, rfl, _, rfl, p1.1, a1, dx1, _, _, rfl, s36 _ _ ea1, .base (.tup (s36 _ _ hr2')), A.PC.nft _, a1, .ref r2, p1.2, rfl, ha1.keep s36, .inr ⟨r2, _, rfl, s36 _ _ hr2', _, rfl, ?_⟩⟩
    exact ⟨_, rfl, iteF ⟨_, _, rfl, s36⟩⟩
  rintro σ H4 ⟨v7, v8, v9, v10, rfl, s4⟩
  have hp4 := hp3.same s4
  -- the parts of a clause
  refine ⟨fun σ H5 => ∃ (pa : Addr) (kv : V) (os dos : List (Option Pc)), σ = [some (.ref a), some (.ref p), some (.ref kl), v3, v4, v5, v6, v7, v8, v9, v10, some (.ref pa), none, none, none, none, none] ∧ HandAt H5 p q ∧ PartsA (wo p H5) pa kv os dos, ?_, ?_⟩
  · exact ⟨_, rfl, p, q, rfl, hp4, fun pa kv os dos H5 hpa hp5 _ => ⟨pa, kv, os, dos, rfl, hp5, hpa⟩⟩
  rintro σ H5 ⟨pa, kv, os, dos, rfl, hp5, hpa⟩
  refine ⟨fun σ H6 => ∃ v12, σ = [some (.ref a), some (.ref p), some (.ref kl), v3, v4, v5, v6, v7, v8, v9, v10, some (.ref pa), some v12, none, none, none, none] ∧ Same H5 H6 ∧ WordIs H6 v12 (clDue kv (some os) (some dos)), ?_, ?_⟩
  · exact ⟨_, rfl, pa, kv, os, dos, rfl, hpa.keep wo_same, fun v H6 s6 hw => ⟨v, rfl, s6, hw.keep nw_sub⟩⟩
  rintro σ H6 ⟨v12, rfl, s6, hw⟩
  have hp6 := hp5.same s6
  have hpa6 : PartsA (wo p H6) pa kv os dos := hpa.keep (wo_keep (Same.keep s6))
  obtain ⟨n, cl, dl, us, vs, hpl, tk, hcl, pu, hdl, pv_⟩ := (hpa6.keep wo_same).ob
  have lo7 := hpa6.l1
  have lo9 := hpa6.l2
  -- the pieces
  refine ⟨fun σ H7 => ∃ (l l0 l1 : Addr) (ys0 ys1 : List V), σ = [some (.ref a), some (.ref p), some (.ref kl), v3, v4, v5, v6, v7, v8, v9, v10, some (.ref pa), some v12, some (.ref l), none, none, none] ∧ Same H6 H7 ∧ H6 l0 = none ∧ H6 l1 = none ∧ l0 ≠ l1 ∧ l0 ≠ l ∧ l1 ≠ l ∧ H7 l = some (.lst [.ref l0, .ref l1]) ∧ H7 l0 = some (.lst ys0) ∧ H7 l1 = some (.lst ys1) ∧ Paired (PieceV Cs H7) ys0 os ∧ Paired (PieceV Cs H7) ys1 dos, ?_, ?_⟩
  · refine ⟨_, rfl, pa, _, _, _, rfl, rfl, SqL.of hpl, atI1 _ _ _, cl, us, os, rfl, hcl, pu, by omega, fun l0 ys0 Ha sa hl0 hla p0 => ?_⟩
    refine ⟨_, rfl, pa, _, _, _, rfl, rfl, SqL.of (sa _ _ hpl), atI2 _ _ _ _, dl, vs, dos, rfl, sa _ _ hdl, pr_imp pv_ fun _ _ q => RowV.keep q sa, by omega, fun l1 ys1 Hb sb hl1 hlb p1 => ?_⟩
    refine ⟨(by show 2 ≤ sizeLine; decide), fun l hl => ?_⟩
    have s3 := sameUpd (o := .lst [V.ref l0, .ref l1]) (Same.refl Hb) hl
    exact ⟨l, l0, l1, ys0, ys1, rfl, (sa.trans sb).trans s3, hl0, sa.free hl1, ne_of_none hla hl1, ne_of_none (sb _ _ hla) hl, ne_of_none hlb hl, upd_same, s3 _ _ (sb _ _ hla), s3 _ _ hlb, pr_imp p0 fun _ _ q => (q.keep wo_same).keep (sb.trans s3), pr_imp p1 fun _ _ q => (q.keep wo_same).keep s3⟩
  rintro σ H7 ⟨l, l0, l1, ys0, ys1, rfl, s7, f0, f1, n01, n0l, n1l, hl, hl0, hl1, p0, p1⟩
  have ly0 := Paired.length p0
  have ly1 := Paired.length p1
  -- the clause, or what is wrong
  refine ⟨fun σ H8 => ∃ x, σ = [some (.ref a), some (.ref p), some (.ref kl), v3, v4, v5, some x, v7, v8, v9, v10, some (.ref pa), some v12, some (.ref l), none, none, none] ∧ Same H7 H8 ∧ (match clDue kv (some os) (some dos) with
      | none => ∃ (b : Addr) (z : Str) (cs ds : List Pc), x = .ref b ∧ kv = .str z ∧ os = cs.map some ∧ dos = ds.map some ∧ ClA K Cs CC H8 b z cs ds
      | some (i, w) => ∃ t, x = .ref t ∧ H8 t = some (.tup [.int i, .str w])), ?_, ?_⟩
  · refine ⟨_, rfl, pa, _, _, _, rfl, rfl, SqL.of (s7 _ _ hpl), atI0 _ _, _, rfl, l, _, _, _, rfl, rfl, SqL.of hl, atI0 _ _, _, rfl, l, _, _, _, rfl, rfl, SqL.of hl, atI1 _ _ _, ?_⟩
    refine ⟨kv, .ref l0, .ref l1, n, some os, some dos, rfl, tk.keep s7, .seq (.lst hl0) (pr_imp p0 fun _ _ q => q.item) (by omega), .seq (.lst hl1) (pr_imp p1 fun _ _ q => q.item) (by omega), ?_⟩
    cases e : clDue kv (some os) (some dos) with
    | some rr =>
      obtain ⟨i, w'⟩ := rr
      exact fun t H8 s8 _ ht => ⟨.ref t, rfl, s8, t, rfl, ht⟩
    | none => exact fun b z cs ds H8 e1 e2 e3 s8 _ cb => ⟨.ref b, rfl, s8, b, z, cs, ds, rfl, e1, Option.some.inj e2, Option.some.inj e3, cb⟩
  rintro σ H8 ⟨x8, rfl, s8, told⟩
  have s68 := s7.trans s8
  have hp8 := hp6.same s68
  -- a right clause with its parts
  refine ⟨fun σ H9 => ∃ (v12 v14 : Option V) (pa l l0 l1 b : Addr) (z : Str) (cs ds : List Pc) (ys0 ys1 : List V), σ = [some (.ref a), some (.ref p), some (.ref kl), v3, v4, v5, some (.ref b), v7, v8, v9, v10, some (.ref pa), v12, some (.ref l), v14, none, none] ∧ HandAt H9 p q ∧ l0 ≠ l1 ∧ l0 ≠ p ∧ l1 ≠ p ∧ l0 ≠ q ∧ l1 ≠ q ∧ l0 ≠ l ∧ l1 ≠ l ∧ H9 l = some (.lst [.ref l0, .ref l1]) ∧ H9 l0 = some (.lst ys0) ∧ H9 l1 = some (.lst ys1) ∧ ys0.length ≤ 100 ∧ ys1.length ≤ 100 ∧ PartsA (wo l0 (wo l1 (wo p H9))) pa (.str z) (cs.map some) (ds.map some) ∧ ClA K Cs CC (wo l0 (wo l1 (wo p H9))) b z cs ds, ?_, ?_⟩
  · cases e : clDue kv (some os) (some dos) with
    | none =>
      rw [e] at told hw
      have e12 : v12 = .non := hw
      subst e12
      obtain ⟨b, z, cs, ds, rfl, rfl, rfl, rfl, cb⟩ := told
      refine ⟨_, rfl, rfl, _, rfl, iteF ?_⟩
      obtain ⟨hys, ehl⟩ := hand_lst hp8
      have e1 : wo p H8 l1 = some (.lst ys1) := wo_at (s8 _ _ hl1) (hp6.ap f1)
      have e0 : wo l1 (wo p H8) l0 = some (.lst ys0) := wo_at (wo_at (s8 _ _ hl0) (hp6.ap f0)) n01
      have sN : Same (wo p H6) (wo l0 (wo l1 (wo p H8))) := fun c u e => by
        obtain ⟨e2, n2⟩ := wo_get e
        exact wo_at (wo_at (wo_at (s68 _ _ e2) n2) (ne_of_none e2 f1)) (ne_of_none e2 f0)
      exact ⟨_, none, pa, l, l0, l1, b, z, cs, ds, ys0, ys1, rfl, hp8, n01, hp6.ap f0, hp6.ap f1, hp6.aq f0, hp6.aq f1, n0l, n1l, s8 _ _ hl, s8 _ _ hl0, s8 _ _ hl1, by omega, by omega, hpa6.keep sN, ((cb.offL ehl).offL e1).offL e0⟩
    | some rr =>
      obtain ⟨i, w'⟩ := rr
      have okw := clDue_word e
      rw [e] at told hw
      obtain ⟨tw, e12, htw⟩ := hw
      obtain ⟨tt, e8, htt⟩ := told
      subst e12
      subst e8
      refine ⟨_, rfl, rfl, _, rfl, iteT ?_⟩
      refine ⟨fun σ Ha => σ = [some (.ref a), some (.ref p), some (.ref kl), v3, v4, v5, some (.ref tt), v7, v8, v9, v10, some (.ref pa), some (.ref tw), some (.ref l), none, none, none] ∧ H8 = Ha, ?_, ?_⟩
      · refine ⟨_, rfl, _, rfl, refD i w', refD i w', dp_ref htt, dp_ref (s68 _ _ htw), shaped_ref okw, shaped_ref okw, _, rfl, ?_⟩
        rw [eqv_ref okw]
        exact iteF ⟨rfl, rfl⟩
      rintro σ _ ⟨rfl, rfl⟩
      -- odd things
      refine ⟨fun σ Ha => ∃ v14, σ = [some (.ref a), some (.ref p), some (.ref kl), v3, v4, v5, some (.ref tt), v7, v8, v9, v10, some (.ref pa), some (.ref tw), some (.ref l), v14, none, none] ∧ Same H8 Ha, ?_, ?_⟩
      · intro dd hdd
        have sd := sameUpd (o := .dK []) (Same.refl H8) hdd
        refine ⟨(by show 1 ≤ sizeLine; decide), fun t1 ht1 => ?_⟩
        have s1 := sameUpd (o := .tup [V.str "same"]) sd ht1
        refine ⟨t1, .same, [], rfl, upd_same, rfl, (fun x m => nomatch m), ?_⟩
        unfold PieceOut
        rw [show Pk.same.pw [] = none from rfl]
        intro ap Hb _ sb hap
        refine ⟨(by show 4 ≤ sizeLine; decide), fun tp htp => ?_⟩
        have sp := sameUpd (o := .tup [V.non, V.str "ab", V.ref dd, V.ref ap]) sb htp
        have s8p := s1.trans sp
        have hd2 : upd Hb tp (.tup [V.non, V.str "ab", V.ref dd, V.ref ap]) dd = some (.dK []) := sp _ _ (by rw [upd_ne (ne_of_none upd_same ht1)]; exact upd_same)
        have seqs : ∀ x ∈ [V.non, V.str "ab", V.ref dd, V.ref ap], ∀ H', Same (upd Hb tp (.tup [V.non, V.str "ab", V.ref dd, V.ref ap])) H' → SeqIs K Cs H' x none := fun x hx H' s' => by
          simp only [List.mem_cons, List.not_mem_nil, or_false] at hx
          rcases hx with e | e | e | e <;> subst e
          · exact .oth .non rfl
          · exact .oth (.str _) rfl
          · exact .oth (.dct dd [] (s' _ _ hd2)) rfl
          · exact .pc (p := (.same, [])) (hap.keep ((sameUpd (Same.refl _) htp).trans s'))
        refine ⟨tp, rfl, ⟨_, SqT.of upd_same⟩, for_tup (K := K) (a := tp) (xs := [V.non, V.str "ab", V.ref dd, V.ref ap]) (fun i σ Hc => ∃ v14, σ = [some (.ref a), some (.ref p), some (.ref kl), v3, v4, v5, some (.ref tt), v7, v8, v9, v10, some (.ref pa), some (.ref tw), some (.ref l), v14, none, none] ∧ Same (upd Hb tp (.tup [V.non, V.str "ab", V.ref dd, V.ref ap])) Hc)
          ⟨none, rfl, Same.refl _⟩ (fun i σ Hc _ ⟨_, _, s⟩ => SqT.of (s _ _ upd_same)) ?_ (fun σ Hc ⟨v14, h, s⟩ => ⟨v14, h, s8p.trans s⟩)⟩
        rintro j x σ Hc hj ⟨v14, rfl, sc⟩
        have hx := seqs x (List.mem_iff_getElem?.mpr ⟨j, hj⟩)
        refine ⟨_, rfl, Nat.zero_le _, fun le hle => ?_⟩
        have sle := sameUpd (o := .lst []) sc hle
        refine ⟨.str "a", x, .ref le, "str", none, some [], rfl, lab_thing (by decide +kernel), hx _ sle, .seq (.lst upd_same) .nil (Nat.zero_le _), ?_⟩
        rw [due1]
        intro t2 Hd s2 ht2 et2
        refine ⟨(by show 2 ≤ sizeLine; decide), fun t3 ht3 => ?_⟩
        have s3 := sameUpd (o := .tup [V.int 0, V.str "conditions"]) (Same.refl Hd) ht3
        refine ⟨refD 0 "conditions", refD 0 "conditions", dp_ref (s3 _ _ et2), dp_ref upd_same, shaped_ref (by decide +kernel), shaped_ref (by decide +kernel), _, rfl, ?_⟩
        rw [eqv_ref (by decide +kernel)]
        have scd := (sle.trans s2).trans s3
        refine iteF ⟨Nat.zero_le _, fun te hte => ⟨_, rfl, ?_⟩⟩
        have ste := sameUpd (o := .tup []) scd hte
        refine ⟨.str "a", .ref te, x, "str", some [], none, rfl, lab_thing (by decide +kernel), .seq (.tup upd_same) .nil (Nat.zero_le _), hx _ ste, ?_⟩
        rw [due2]
        intro t4 He s4' ht4 et4
        refine ⟨(by show 2 ≤ sizeLine; decide), fun t5 ht5 => ?_⟩
        have s5 := sameUpd (o := .tup [V.int 0, V.str "changes"]) (Same.refl He) ht5
        refine ⟨refD 0 "changes", refD 0 "changes", dp_ref (s5 _ _ et4), dp_ref upd_same, shaped_ref (by decide +kernel), shaped_ref (by decide +kernel), _, rfl, ?_⟩
        rw [eqv_ref (by decide +kernel)]
        exact iteF ⟨_, rfl, (ste.trans s4').trans s5⟩
      rintro σ Ha ⟨v14, rfl, sa⟩
      have s6a := s68.trans sa
      have hpa' := hp8.same sa
      -- right parts
      refine ⟨fun σ Hb => ∃ (pa cl dl rt : Addr), σ = [some (.ref a), some (.ref p), some (.ref kl), v3, v4, v5, some (.ref tt), v7, v8, v9, v10, some (.ref pa), some (.ref tw), some (.ref l), v14, none, none] ∧ HandAt Hb p q ∧ wo p Hb pa = some (.lst [V.str "grant", V.ref cl, V.ref dl]) ∧ wo p Hb cl = some (.lst []) ∧ wo p Hb dl = some (.lst [V.ref rt]) ∧ wo p Hb rt = some (.tup [V.str "put", V.str "owner", V.str "first"]), ?_, ?_⟩
      · refine ⟨_, rfl, pa, _, _, _, rfl, rfl, SqL.of (s6a _ _ hpl), atI1 _ _ _, ?_⟩
        refine ⟨_, rfl, cl, us, rfl, SqL.of (s6a _ _ hcl), fun c2 hc2 => ?_⟩
        rw [show cutV us none (some 0) = [] from cut_take us 0 (Nat.zero_le _)]
        have q1 := sameUpd (o := .lst []) (Same.refl Ha) hc2
        refine ⟨(by show 3 ≤ sizeLine; decide), fun rt hrt => ⟨(by show 1 ≤ sizeLine; decide), fun d2 hd2 => ⟨(by show 3 ≤ sizeLine; decide), fun pa2 hpa2 => ?_⟩⟩⟩
        have q2' := sameUpd (o := .tup [V.str "put", V.str "owner", V.str "first"]) (Same.refl _) hrt
        have q3' := sameUpd (o := .lst [V.ref rt]) (Same.refl _) hd2
        have q4' := sameUpd (o := .lst [V.str "grant", V.ref c2, V.ref d2]) (Same.refl _) hpa2
        have h1 := hpa'.same q1
        have h2 := h1.same q2'
        have h3 := h2.same q3'
        have h4 := h3.same q4'
        exact ⟨pa2, c2, d2, rt, rfl, h4, wo_at upd_same (h3.ap hpa2), wo_at (q4' _ _ (q3' _ _ (q2' _ _ upd_same))) (hpa'.ap hc2), wo_at (q4' _ _ upd_same) (h2.ap hd2), wo_at (q4' _ _ (q3' _ _ upd_same)) (h1.ap hrt)⟩
      rintro σ Hb ⟨pa2, c2, d2, rt, rfl, hpb, e1, e2, e3, e4⟩
      -- their pieces
      refine ⟨fun σ Hc => ∃ (l l0 l1 ap : Addr), σ = [some (.ref a), some (.ref p), some (.ref kl), v3, v4, v5, some (.ref tt), v7, v8, v9, v10, some (.ref pa2), some (.ref tw), some (.ref l), v14, none, none] ∧ Same Hb Hc ∧ Hb l0 = none ∧ Hb l1 = none ∧ l0 ≠ l1 ∧ l0 ≠ l ∧ l1 ≠ l ∧ Hc l = some (.lst [.ref l0, .ref l1]) ∧ Hc l0 = some (.lst []) ∧ Hc l1 = some (.lst [.ref ap]) ∧ PcA Cs Hc ap grantP.1 grantP.2, ?_, ?_⟩
      · refine ⟨Nat.zero_le _, fun l0 hl0 => ?_⟩
        have q1 := sameUpd (o := .lst []) (Same.refl Hb) hl0
        refine ⟨_, rfl, pa2, _, _, _, rfl, rfl, SqL.of (q1 _ _ (wo_same _ _ e1)), atI2 _ _ _ _, d2, _, _, _, rfl, rfl, SqL.of (q1 _ _ (wo_same _ _ e3)), atI0 _ _, ?_⟩
        refine ⟨rt, .put, [V.str "owner", V.str "first"], rfl, q1 _ _ (wo_same _ _ e4), rfl, good_things grant_ok, ?_⟩
        unfold PieceOut
        rw [show Pk.put.pw [V.str "owner", V.str "first"] = none from grant_ok]
        intro ap Hx hap sx hx
        refine ⟨(by show 1 ≤ sizeLine; decide), fun l1 hl1 => ⟨(by show 2 ≤ sizeLine; decide), fun l hl => ?_⟩⟩
        have q2 := sameUpd (o := .lst [V.ref ap]) sx hl1
        have q3 := sameUpd (o := .lst [V.ref l0, .ref l1]) (Same.refl _) hl
        have q12 := q1.trans q2
        exact ⟨l, l0, l1, ap, rfl, q12.trans q3, hl0, q1.free (sx.free hl1), ne_of_none (sx _ _ upd_same) hl1, ne_of_none (q2 _ _ upd_same) hl, ne_of_none upd_same hl, upd_same, q3 _ _ (q2 _ _ upd_same), q3 _ _ upd_same, hx.keep ((sameUpd (Same.refl _) hl1).trans q3)⟩
      rintro σ Hc ⟨l', m0, m1, ap, rfl, sc, g0, g1, k01, k0l, k1l, hl', hm0, hm1, hap⟩
      have hpc := hpb.same sc
      refine ⟨_, rfl, pa2, _, _, _, rfl, rfl, SqL.of (sc _ _ (wo_same _ _ e1)), atI0 _ _, _, rfl, l', _, _, _, rfl, rfl, SqL.of hl', atI0 _ _, _, rfl, l', _, _, _, rfl, rfl, SqL.of hl', atI1 _ _ _, ?_⟩
      refine ⟨.str "grant", .ref m0, .ref m1, "str", some [], some [some grantP], rfl, lab_thing (by decide +kernel), .seq (.lst hm0) .nil (Nat.zero_le _), .seq (.lst hm1) (.cons (.pc hap) .nil) (by show 1 ≤ 2000; decide), ?_⟩
      rw [due3]
      intro b z cs ds Hd e5 e6 e7 sd _ cb
      have ez : z = Str.ofString "grant" := (V.str.inj e5).symm
      have ecs : cs = [] := by
        have := Option.some.inj e6
        cases cs with
        | nil => rfl
        | cons _ _ => cases this
      have eds : ds = [grantP] := map_some_inj (Option.some.inj e7).symm
      subst ez
      subst ecs
      subst eds
      have hpd := hpc.same sd
      obtain ⟨hys, ehl⟩ := hand_lst hpd
      have h1' : wo p Hd m1 = some (.lst [.ref ap]) := wo_at (sd _ _ hm1) (hpb.ap g1)
      have h0' : wo m1 (wo p Hd) m0 = some (.lst []) := wo_at (wo_at (sd _ _ hm0) (hpb.ap g0)) k01
      have sN : Same (wo p Hb) (wo m0 (wo m1 (wo p Hd))) := fun c u e => by
        obtain ⟨e2, n2⟩ := wo_get e
        exact wo_at (wo_at (wo_at ((sc.trans sd) _ _ e2) n2) (ne_of_none e2 g1)) (ne_of_none e2 g0)
      refine ⟨_, v14, pa2, l', m0, m1, b, "grant", [], [grantP], [], [.ref ap], rfl, hpd, k01, hpb.ap g0, hpb.ap g1, hpb.aq g0, hpb.aq g1, k0l, k1l, sd _ _ hl', sd _ _ hm0, sd _ _ hm1, Nat.zero_le _, (by show 1 ≤ 100; decide), ?_, ((cb.offL ehl).offL h1').offL h0'⟩
      refine PartsA.keep ?_ sN
      exact ⟨⟨"str", c2, d2, [], [.ref rt], e1, lab_thing (by decide +kernel), e2, .nil, e3, .cons ⟨rt, rfl, e4, grant_ok, nice_s (by decide +kernel) (by decide +kernel)⟩ .nil⟩, by decide, by decide⟩
  rintro σ H9 ⟨w12, w14, pa, l, l0, l1, b, z, cs, ds, ys0, ys1, rfl, hp9, n01, n0p, n1p, n0q, n1q, n0l, n1l, hl, hl0, hl1, ly0, ly1, hpa9, hb9⟩
  obtain ⟨hys9, ehl9⟩ := hand_lst hp9
  -- the lists are changed behind
  refine ⟨fun σ Ha => σ = [some (.ref a), some (.ref p), some (.ref kl), v3, v4, v5, some (.ref b), v7, v8, v9, v10, some (.ref pa), w12, some (.ref l), w14, none, none] ∧ Ha = upd H9 l0 (.lst (ys0 ++ [.non])), ?_, ?_⟩
  · exact ⟨_, rfl, l, _, _, _, rfl, rfl, SqL.of hl, atI0 _ _, .inl ⟨rfl, _, SqL.of hl0⟩, l0, ys0, _, rfl, rfl, hl0, line2 (by omega), rfl, rfl⟩
  rintro σ _ ⟨rfl, rfl⟩
  refine ⟨fun σ Hb => σ = [some (.ref a), some (.ref p), some (.ref kl), v3, v4, v5, some (.ref b), v7, v8, v9, v10, some (.ref pa), w12, some (.ref l), w14, none, none] ∧ HandAt Hb p q ∧ PartsA (wo p Hb) pa (.str z) (cs.map some) (ds.map some) ∧ ClA K Cs CC (wo p Hb) b z cs ds, ?_, ?_⟩
  · have hl' : upd H9 l0 (.lst (ys0 ++ [.non])) l = some (.lst [.ref l0, .ref l1]) := by rw [upd_ne n0l.symm]; exact hl
    have hl1' : upd H9 l0 (.lst (ys0 ++ [.non])) l1 = some (.lst ys1) := by rw [upd_ne n01.symm]; exact hl1
    refine ⟨_, rfl, l, _, _, _, rfl, rfl, SqL.of hl', atI1 _ _ _, .inl ⟨rfl, _, SqL.of hl1'⟩, fun az zd hzx hzd ne => spI_ok (Cs := Cs) (k := .zero) (args := [V.str "use"]) hzx hzd ne (by decide +kernel) fun Hz sz hz => ⟨rfl, ?_⟩⟩
    refine ⟨l1, ys1, 0, .ref az, rfl, rfl, sz _ _ hl1', line2 (by omega), by decide, by decide, rfl, (((hp9.upd n0p n0q).same sz).upd n1p n1q), ?_⟩
    have sN : Same (wo l0 (wo l1 (wo p H9))) (wo p (upd Hz l1 (.lst (ys1.take (0 : Int).toNat ++ [.ref az] ++ ys1.drop (0 : Int).toNat)))) := fun c u e => by
      obtain ⟨e1, n1⟩ := wo_get e
      obtain ⟨e2, n2⟩ := wo_get e1
      obtain ⟨e3, n3⟩ := wo_get e2
      exact wo_at (by rw [upd_ne n2]; exact sz _ _ (by rw [upd_ne n1]; exact e3)) n3
    exact ⟨hpa9.keep sN, hb9.keep sN⟩
  rintro σ Hb ⟨rfl, hpb, hpab, hbb⟩
  -- told exactly, and split
  refine ⟨fun σ Hc => σ = [some (.ref a), some (.ref p), some (.ref kl), v3, v4, v5, some (.ref b), v7, v8, v9, v10, some (.ref pa), w12, some (.ref l), w14, none, none] ∧ HandAt Hc p q ∧ PartsA (wo p Hc) pa (.str z) (cs.map some) (ds.map some) ∧ ClA K Cs CC (wo p Hc) b z cs ds, ?_, ?_⟩
  · refine ⟨_, rfl, _, rfl, b, pa, z, cs, ds, rfl, hbb.keep wo_same, hpab.keep wo_same, fun Hx sx => ⟨_, rfl, iteF ?_⟩⟩
    have wx : Same (wo p Hb) (wo p Hx) := wo_keep (Same.keep sx)
    refine ⟨_, rfl, _, rfl, _, rfl, p, q, b, pa, z, cs, ds, rfl, hpb.same sx, hbb.keep wx, hpab.keep wx, fun Hy hpy ky => ⟨_, rfl, iteF ?_⟩⟩
    have wy : Same (wo p Hb) (wo p Hy) := wx.trans (wo_keep ky)
    refine ⟨_, rfl, _, rfl, b, pa, z, cs, ds, rfl, (hbb.keep wy).keep wo_same, (hpab.keep wy).keep wo_same, fun Hz sz => ⟨_, rfl, iteF ?_⟩⟩
    have wz : Same (wo p Hb) (wo p Hz) := wy.trans (wo_keep (Same.keep sz))
    exact ⟨rfl, hpy.same sz, hpab.keep wz, hbb.keep wz⟩
  rintro σ Hc ⟨rfl, hpc, hpac, hbc⟩
  obtain ⟨n2, cl2, dl2, us2, vs2, g1, gtk, g2, g3, g4, g5⟩ := hpac.ob
  have lcs : cs.length ≤ 6 := (condScan_of hbc.cd).1
  have lds : ds.length ≤ 9 := by have := hpac.l2; simpa using this
  have lus2 : us2.length = cs.length := by rw [Paired.length g3, List.length_map]
  have lvs2 : vs2.length = ds.length := by rw [Paired.length g5, List.length_map]
  -- other parts
  refine ⟨fun σ Hd => ∃ ot c2 d2, σ = [some (.ref a), some (.ref p), some (.ref kl), v3, v4, v5, some (.ref b), v7, v8, v9, v10, some (.ref pa), w12, some (.ref l), w14, some (.ref ot), none] ∧ HandAt Hd p q ∧ Same Hc Hd ∧ Hc ot = none ∧ c2 ≠ ot ∧ d2 ≠ ot ∧ wo p Hd ot = some (.lst [.str z, .ref c2, .ref d2]) ∧ wo p Hd c2 = some (.lst us2) ∧ wo p Hd d2 = some (.lst vs2), ?_, ?_⟩
  · refine ⟨_, rfl, pa, _, _, _, rfl, rfl, SqL.of (wo_same _ _ g1), atI0 _ _, _, rfl, pa, _, _, _, rfl, rfl, SqL.of (wo_same _ _ g1), atI1 _ _ _, cl2, us2, rfl, .inl (SqL.of (wo_same _ _ g2)), fun c2 hc2 => ?_⟩
    have q1 := sameUpd (o := .lst us2) (Same.refl Hc) hc2
    refine ⟨_, rfl, pa, _, _, _, rfl, rfl, SqL.of (q1 _ _ (wo_same _ _ g1)), atI2 _ _ _ _, dl2, vs2, rfl, .inl (SqL.of (q1 _ _ (wo_same _ _ g4))), fun d2 hd2 => ?_⟩
    have q2' := sameUpd (o := .lst vs2) (Same.refl _) hd2
    refine ⟨(by show 3 ≤ sizeLine; decide), fun ot hot => ?_⟩
    have q3' := sameUpd (o := .lst [.str z, .ref c2, .ref d2]) (Same.refl _) hot
    have q13 := (q1.trans q2').trans q3'
    exact ⟨ot, c2, d2, rfl, hpc.same q13, q13, (q1.trans q2').free hot, ne_of_none (q2' _ _ upd_same) hot, ne_of_none upd_same hot, wo_at upd_same ((hpc.same (q1.trans q2')).ap hot), wo_at (q3' _ _ (q2' _ _ upd_same)) (hpc.ap hc2), wo_at (q3' _ _ upd_same) ((hpc.same q1).ap hd2)⟩
  rintro σ Hd ⟨ot, c2, d2, rfl, hpd, sd, ot0, nc2, nd2, h1, h2, h3⟩
  have otp : ot ≠ p := hpc.ap ot0
  refine ⟨fun σ He => ∃ kk : Int, 0 ≤ kk ∧ kk < 3 ∧ σ = [some (.ref a), some (.ref p), some (.ref kl), v3, v4, v5, some (.ref b), v7, v8, v9, v10, some (.ref pa), w12, some (.ref l), w14, some (.ref ot), some (.int kk)] ∧ HandAt He p q ∧ Keep Hd He p, ?_, ?_⟩
  · exact ⟨_, rfl, p, q, 3, rfl, hpd, by decide, by decide, fun kk He k0 k1 hpe ke => ⟨kk, k0, k1, rfl, hpe, ke⟩⟩
  rintro σ He ⟨kk, kk0, kk1, rfl, hpe, ke⟩
  have wce : Same (wo p Hc) (wo p He) := wo_keep fun c u e ne => ke c u (sd c u e) ne
  have wde : Same (wo p Hd) (wo p He) := wo_keep ke
  -- one part is another
  refine ⟨fun σ Hf => ∃ (v16 : V) (z' : Str) (cs' ds' : List Pc) (c3 d3 : Addr) (us3 vs3 : List V), σ = [some (.ref a), some (.ref p), some (.ref kl), v3, v4, v5, some (.ref b), v7, v8, v9, v10, some (.ref pa), w12, some (.ref l), w14, some (.ref ot), some v16] ∧ Same (wo p Hc) Hf ∧ isLab z' = true ∧ Alt cs cs' ∧ Alt ds ds' ∧ Hf ot = some (.lst [.str z', .ref c3, .ref d3]) ∧ Hf c3 = some (.lst us3) ∧ Hf d3 = some (.lst vs3) ∧ Paired (RowV Hf) us3 (cs'.map some) ∧ Paired (RowV Hf) vs3 (ds'.map some), ?_, ?_⟩
  · have k3 : kk = 0 ∨ kk = 1 ∨ kk = 2 := by omega
    rcases k3 with rfl | rfl | rfl
    · refine ⟨_, rfl, rfl, _, rfl, ?_⟩
      rw [decide_eq_true rfl]
      refine iteT ⟨_, rfl, _, rfl, ot, _, 0, 0, rfl, rfl, wo_same _ _ (wde _ _ h1), rfl, ?_⟩
      have sfin : ∀ {o : HO}, Same (wo p Hc) (upd He ot o) := fun c u e => by
        rw [upd_ne (fun z => by rw [z, wo_ne otp, ot0] at e; cases e)]
        exact wo_same _ _ (wce _ _ e)
      exact ⟨.int 0, "other", cs, ds, c2, d2, us2, vs2, rfl, sfin, (by decide +kernel), .inl rfl, .inl rfl, upd_same, by rw [upd_ne nc2]; exact wo_same _ _ (wde _ _ h2), by rw [upd_ne nd2]; exact wo_same _ _ (wde _ _ h3), pr_imp g3 fun _ _ q => RowV.keep q sfin, pr_imp g5 fun _ _ q => RowV.keep q sfin⟩
    · refine ⟨_, rfl, rfl, _, rfl, ?_⟩
      rw [decide_eq_false (fun e => absurd (V.int.inj e) (by decide))]
      refine iteF ⟨_, rfl, p, q, 2, rfl, hpe, by decide, by decide, fun yy H1 y0 y1 hp1 k1 => ⟨rfl, _, rfl, ?_⟩⟩
      have w1 : Same (wo p Hd) H1 := (wde.trans (wo_keep k1)).trans wo_same
      have wc1 : Same (wo p Hc) H1 := (wce.trans (wo_keep k1)).trans wo_same
      refine ite2 (fun _ => ?_) (fun _ => ?_)
      · refine ⟨_, rfl, _, rfl, ot, _, _, _, rfl, rfl, SqL.of (w1 _ _ h1), atI1 _ _ _, _, rfl, c2, us2, rfl, SqL.of (w1 _ _ h2), fun t1 ht1 => ?_⟩
        rw [cut_d1]
        have q1 := sameUpd (o := .lst (us2.drop 1)) (Same.refl H1) ht1
        have w2 := w1.trans q1
        refine ⟨_, rfl, _, rfl, ot, _, _, _, rfl, rfl, SqL.of (w2 _ _ h1), atI1 _ _ _, ?_⟩
        refine ⟨_, rfl, c2, us2, rfl, SqL.of (w2 _ _ h2), fun t2 ht2 => ?_⟩
        rw [cut_t1]
        have q2 := sameUpd (o := .lst (us2.take 1)) (Same.refl _) ht2
        have e1 := q2 _ _ (upd_same (H := H1) (a := t1) (o := HO.lst (us2.drop 1)))
        refine ⟨t1, t2, _, _, rfl, rfl, e1, upd_same, Nat.le_of_lt (line2 (by simp; omega)), fun t3 ht3 => ?_⟩
        have q3 := sameUpd (o := .lst (us2.drop 1 ++ us2.take 1)) (Same.refl _) ht3
        have w4 := (w2.trans q2).trans q3
        have nt : t3 ≠ ot := (ne_of_none ((w2.trans q2) _ _ h1) ht3).symm
        refine ⟨_, rfl, _, rfl, ot, _, 1, 1, rfl, rfl, w4 _ _ h1, rfl, ?_⟩
        have sfin : ∀ {o : HO}, Same (wo p Hc) (upd (upd (upd (upd H1 t1 (.lst (us2.drop 1))) t2 (.lst (us2.take 1))) t3 (.lst (us2.drop 1 ++ us2.take 1))) ot o) := fun c u e => by
          rw [upd_ne (fun z => by rw [z, wo_ne otp, ot0] at e; cases e)]
          exact (((wc1.trans q1).trans q2).trans q3) _ _ e
        have FC : ∀ {o : HO}, upd (upd (upd (upd H1 t1 (.lst (us2.drop 1))) t2 (.lst (us2.take 1))) t3 (.lst (us2.drop 1 ++ us2.take 1))) ot o t3 = some (.lst (us2.drop 1 ++ us2.take 1)) := by
          intro o
          rw [upd_ne nt]
          exact upd_same
        have FD : ∀ {o : HO}, upd (upd (upd (upd H1 t1 (.lst (us2.drop 1))) t2 (.lst (us2.take 1))) t3 (.lst (us2.drop 1 ++ us2.take 1))) ot o d2 = some (.lst vs2) := by
          intro o
          rw [upd_ne nd2]
          exact w4 _ _ h3
        exact ⟨.int 1, z, cs.drop 1 ++ cs.take 1, ds, t3, d2, _, vs2, rfl, sfin, hbc.lab, .inr (.inl rfl), .inl rfl, upd_same, FC, FD, pr_imp (rot_paired g3) fun _ _ q => RowV.keep q sfin, pr_imp g5 fun _ _ q => RowV.keep q sfin⟩
      · refine ⟨_, rfl, _, rfl, ot, _, _, _, rfl, rfl, SqL.of (w1 _ _ h1), atI1 _ _ _, _, rfl, c2, us2, rfl, SqL.of (w1 _ _ h2), fun t1 ht1 => ?_⟩
        rw [cut_d1]
        have q1 := sameUpd (o := .lst (us2.drop 1)) (Same.refl H1) ht1
        have w2 := w1.trans q1
        have nt : t1 ≠ ot := (ne_of_none (w1 _ _ h1) ht1).symm
        refine ⟨_, rfl, _, rfl, ot, _, 1, 1, rfl, rfl, w2 _ _ h1, rfl, ?_⟩
        have sfin : ∀ {o : HO}, Same (wo p Hc) (upd (upd H1 t1 (.lst (us2.drop 1))) ot o) := fun c u e => by
          rw [upd_ne (fun z => by rw [z, wo_ne otp, ot0] at e; cases e)]
          exact (wc1.trans q1) _ _ e
        have FC : ∀ {o : HO}, upd (upd H1 t1 (.lst (us2.drop 1))) ot o t1 = some (.lst (us2.drop 1)) := by
          intro o
          rw [upd_ne nt]
          exact upd_same
        have FD : ∀ {o : HO}, upd (upd H1 t1 (.lst (us2.drop 1))) ot o d2 = some (.lst vs2) := by
          intro o
          rw [upd_ne nd2]
          exact w2 _ _ h3
        exact ⟨.int 1, z, cs.drop 1, ds, t1, d2, _, vs2, rfl, sfin, hbc.lab, .inr (.inr rfl), .inl rfl, upd_same, FC, FD, pr_imp (drop1_paired g3) fun _ _ q => RowV.keep q sfin, pr_imp g5 fun _ _ q => RowV.keep q sfin⟩
    · refine ⟨_, rfl, rfl, _, rfl, ?_⟩
      rw [decide_eq_false (fun e => absurd (V.int.inj e) (by decide))]
      refine iteF ⟨_, rfl, p, q, 2, rfl, hpe, by decide, by decide, fun yy H1 y0 y1 hp1 k1 => ⟨rfl, _, rfl, ?_⟩⟩
      have w1 : Same (wo p Hd) H1 := (wde.trans (wo_keep k1)).trans wo_same
      have wc1 : Same (wo p Hc) H1 := (wce.trans (wo_keep k1)).trans wo_same
      refine ite2 (fun _ => ?_) (fun _ => ?_)
      · refine ⟨_, rfl, _, rfl, ot, _, _, _, rfl, rfl, SqL.of (w1 _ _ h1), atI2 _ _ _ _, _, rfl, d2, vs2, rfl, SqL.of (w1 _ _ h3), fun t1 ht1 => ?_⟩
        rw [cut_d1]
        have q1 := sameUpd (o := .lst (vs2.drop 1)) (Same.refl H1) ht1
        have w2 := w1.trans q1
        refine ⟨_, rfl, _, rfl, ot, _, _, _, rfl, rfl, SqL.of (w2 _ _ h1), atI2 _ _ _ _, ?_⟩
        refine ⟨_, rfl, d2, vs2, rfl, SqL.of (w2 _ _ h3), fun t2 ht2 => ?_⟩
        rw [cut_t1]
        have q2 := sameUpd (o := .lst (vs2.take 1)) (Same.refl _) ht2
        have e1 := q2 _ _ (upd_same (H := H1) (a := t1) (o := HO.lst (vs2.drop 1)))
        refine ⟨t1, t2, _, _, rfl, rfl, e1, upd_same, Nat.le_of_lt (line2 (by simp; omega)), fun t3 ht3 => ?_⟩
        have q3 := sameUpd (o := .lst (vs2.drop 1 ++ vs2.take 1)) (Same.refl _) ht3
        have w4 := (w2.trans q2).trans q3
        have nt : t3 ≠ ot := (ne_of_none ((w2.trans q2) _ _ h1) ht3).symm
        refine ⟨_, rfl, _, rfl, ot, _, 2, 2, rfl, rfl, w4 _ _ h1, rfl, ?_⟩
        have sfin : ∀ {o : HO}, Same (wo p Hc) (upd (upd (upd (upd H1 t1 (.lst (vs2.drop 1))) t2 (.lst (vs2.take 1))) t3 (.lst (vs2.drop 1 ++ vs2.take 1))) ot o) := fun c u e => by
          rw [upd_ne (fun z => by rw [z, wo_ne otp, ot0] at e; cases e)]
          exact (((wc1.trans q1).trans q2).trans q3) _ _ e
        have FC : ∀ {o : HO}, upd (upd (upd (upd H1 t1 (.lst (vs2.drop 1))) t2 (.lst (vs2.take 1))) t3 (.lst (vs2.drop 1 ++ vs2.take 1))) ot o t3 = some (.lst (vs2.drop 1 ++ vs2.take 1)) := by
          intro o
          rw [upd_ne nt]
          exact upd_same
        have FD : ∀ {o : HO}, upd (upd (upd (upd H1 t1 (.lst (vs2.drop 1))) t2 (.lst (vs2.take 1))) t3 (.lst (vs2.drop 1 ++ vs2.take 1))) ot o c2 = some (.lst us2) := by
          intro o
          rw [upd_ne nc2]
          exact w4 _ _ h2
        exact ⟨.int 2, z, cs, ds.drop 1 ++ ds.take 1, c2, t3, us2, _, rfl, sfin, hbc.lab, .inl rfl, .inr (.inl rfl), upd_same, FD, FC, pr_imp g3 fun _ _ q => RowV.keep q sfin, pr_imp (rot_paired g5) fun _ _ q => RowV.keep q sfin⟩
      · refine ⟨_, rfl, _, rfl, ot, _, _, _, rfl, rfl, SqL.of (w1 _ _ h1), atI2 _ _ _ _, _, rfl, d2, vs2, rfl, SqL.of (w1 _ _ h3), fun t1 ht1 => ?_⟩
        rw [cut_d1]
        have q1 := sameUpd (o := .lst (vs2.drop 1)) (Same.refl H1) ht1
        have w2 := w1.trans q1
        have nt : t1 ≠ ot := (ne_of_none (w1 _ _ h1) ht1).symm
        refine ⟨_, rfl, _, rfl, ot, _, 2, 2, rfl, rfl, w2 _ _ h1, rfl, ?_⟩
        have sfin : ∀ {o : HO}, Same (wo p Hc) (upd (upd H1 t1 (.lst (vs2.drop 1))) ot o) := fun c u e => by
          rw [upd_ne (fun z => by rw [z, wo_ne otp, ot0] at e; cases e)]
          exact (wc1.trans q1) _ _ e
        have FC : ∀ {o : HO}, upd (upd H1 t1 (.lst (vs2.drop 1))) ot o t1 = some (.lst (vs2.drop 1)) := by
          intro o
          rw [upd_ne nt]
          exact upd_same
        have FD : ∀ {o : HO}, upd (upd H1 t1 (.lst (vs2.drop 1))) ot o c2 = some (.lst us2) := by
          intro o
          rw [upd_ne nc2]
          exact w2 _ _ h2
        exact ⟨.int 2, z, cs, ds.drop 1, c2, t1, us2, _, rfl, sfin, hbc.lab, .inl rfl, .inr (.inr rfl), upd_same, FD, FC, pr_imp g3 fun _ _ q => RowV.keep q sfin, pr_imp (drop1_paired g5) fun _ _ q => RowV.keep q sfin⟩
  rintro σ Hf ⟨v16, z', cs', ds', c3, d3, us3, vs3, rfl, sf, hz', ac, ad, hot, hc3, hd3, p3, p4⟩
  have due : clDue (.str z') (some (cs'.map some)) (some (ds'.map some)) = none := by
    unfold clDue
    rw [show labV (.str z') = true from hz', if_pos rfl, alt_cond ac hbc.cd]
    exact alt_chg ad hbc.hd
  have lc3 : us3.length ≤ 6 := by rw [Paired.length p3, List.length_map]; exact Nat.le_trans (alt_sub ac).1 lcs
  have ld3 : vs3.length ≤ 9 := by rw [Paired.length p4, List.length_map]; exact Nat.le_trans (alt_sub ad).1 lds
  have okc := rows_ok g3
  have okd := rows_ok g5
  have okc' := rows_ok p3
  have okd' := rows_ok p4
  have eqp : PyData.eqv (partsD z' cs' ds') (partsD z cs ds) = decide (z' = z ∧ cs' = cs ∧ ds' = ds) := eqv_parts okc' okd' okc okd
  -- a second clause
  refine ⟨fun σ Hg => ∃ b2, σ = [some (.ref a), some (.ref p), some (.ref kl), v3, v4, v5, some (.ref b), v7, v8, v9, some (.ref b2), some (.ref pa), w12, some (.ref l), w14, some (.ref ot), some v16] ∧ Same Hf Hg ∧ ClA K Cs CC Hg b2 z' cs' ds', ?_, ?_⟩
  · refine ⟨_, rfl, ot, _, _, _, rfl, rfl, SqL.of hot, atI0 _ _, ?_⟩
    refine ⟨_, rfl, ot, _, _, _, rfl, rfl, SqL.of hot, atI1 _ _ _, c3, us3, _, rfl, hc3, p3, by rw [← Paired.length p3]; omega, fun l0 ys0 Hg sg hl0 hg0 q0 => ⟨l0, ys0, rfl, .inl ⟨SqL.of hg0, fun t0 ht0 => ?_⟩⟩⟩
    have lq0 : ys0.length ≤ 2000 := by rw [Paired.length q0, ← Paired.length p3]; omega
    have st := sameUpd (o := .tup ys0) sg ht0
    refine ⟨_, rfl, ot, _, _, _, rfl, rfl, SqL.of (st _ _ hot), atI2 _ _ _ _, d3, vs3, _, rfl, st _ _ hd3, pr_imp p4 fun _ _ q => RowV.keep q st, by rw [← Paired.length p4]; omega, fun l1 ys1 Hh sh hl1 hg1 q1 => ⟨l1, ys1, rfl, .inl ⟨SqL.of hg1, fun t1 ht1 => ?_⟩⟩⟩
    have lq1 : ys1.length ≤ 2000 := by rw [Paired.length q1, ← Paired.length p4]; omega
    have sh1 := sameUpd (o := .tup ys1) sh ht1
    refine ⟨.str z', .ref t0, .ref t1, "str", some (cs'.map some), some (ds'.map some), rfl, lab_thing hz', .seq (.tup (sh1 _ _ upd_same)) (pr_imp q0 fun _ _ q => ((q.keep wo_same).keep ((sameUpd (Same.refl _) ht0).trans sh1)).item) lq0, .seq (.tup upd_same) (pr_imp q1 fun _ _ q => ((q.keep wo_same).keep (sameUpd (Same.refl _) ht1)).item) lq1, ?_⟩
    rw [due]
    intro b2 z2 cs2 ds2 Hi e1 e2 e3 s2 _ cb
    have ez : z2 = z' := (V.str.inj e1).symm
    have ec := map_some_inj (Option.some.inj e2)
    have ed := map_some_inj (Option.some.inj e3)
    subst ez
    subst ec
    subst ed
    exact ⟨b2, rfl, (st.trans sh1).trans s2, cb⟩
  rintro σ Hg ⟨b2, rfl, sg, hb2⟩
  have s9 := sf.trans sg
  have hbg := hbc.keep s9
  obtain ⟨dx2, ca2, da2, us4, vs4, h20, _⟩ := hb2.ob
  obtain ⟨dx1, ca1, da1, us5, vs5, h10, _⟩ := hbg.ob
  refine ⟨fun σ Hh => σ = [some (.ref a), some (.ref p), some (.ref kl), v3, v4, v5, some (.ref b), v7, v8, v9, some (.ref b2), some (.ref pa), w12, some (.ref l), w14, some (.ref ot), some v16] ∧ Hg = Hh, ?_, ?_⟩
  · refine ⟨_, rfl, _, rfl, b2, dx2, _, _, rfl, h20, A.QX.ty h10, A.nfc, b2, .ref b, z', cs', ds', rfl, hb2, .inl ⟨b, z, cs, ds, rfl, hbg, _, rfl, ?_⟩⟩
    refine ⟨_, rfl, _, rfl, partsD z' cs' ds', partsD z cs ds, parts_dp (sg _ _ hot) (sg _ _ hc3) (sg _ _ hd3) (pr_imp p3 fun _ _ q => RowV.keep q sg) (pr_imp p4 fun _ _ q => RowV.keep q sg), parts_dp (s9 _ _ g1) (s9 _ _ g2) (s9 _ _ g4) (pr_imp g3 fun _ _ q => RowV.keep q s9) (pr_imp g5 fun _ _ q => RowV.keep q s9), shaped_parts (lab_fine hz') okc' okd', shaped_parts (lab_fine hbc.lab) okc okd, rfl, _, rfl, ?_⟩
    rw [eqp, decide_eq_true (rfl : V.bl (decide (z' = z ∧ cs' = cs ∧ ds' = ds)) = V.bl (decide (z' = z ∧ cs' = cs ∧ ds' = ds)))]
    refine iteF ⟨_, rfl, _, rfl, pa, _, _, _, rfl, rfl, SqL.of (s9 _ _ g1), atI0 _ _, b, dx1, _, _, rfl, h10, .base (.str _), A.nfs, b, .str z, z, cs, ds, rfl, hbg, .inr ⟨_, .base (.str _), A.kst, _, rfl, _, rfl, iteF ⟨rfl, rfl⟩⟩⟩
  rintro σ _ ⟨rfl, rfl⟩
  have d0 : condDue (some (([] : List Pc).map some)) = none := rfl
  have d1 : chgDue (some (([] : List Pc).map some)) = none := rfl
  have l0 : ([] : List V).length ≤ 2000 := Nat.zero_le _
  refine fun xa da hxa hda nea => spCl_ok (Cs := Cs) (CB := CB) (z := Str.ofString "a") (cs := []) (ds := []) hxa hda nea (by decide +kernel) (.seq (A.s1 _) .nil l0) (.seq (A.s2 _) .nil l0) d0 d1 fun Ha sa hA => ⟨rfl, ?_⟩
  refine ⟨Nat.zero_le _, fun la hla => ⟨Nat.zero_le _, fun ta hta => ?_⟩⟩
  have q1 := sameUpd (o := .lst []) (Same.refl Ha) hla
  have q2 := sameUpd (o := .tup []) (Same.refl _) hta
  refine fun xb db hxb hdb neb => spCl_ok (Cs := Cs) (CB := CB) (z := Str.ofString "a") (cs := []) (ds := []) hxb hdb neb (by decide +kernel) (.seq (.lst (q2 _ _ upd_same)) .nil l0) (.seq (.tup upd_same) .nil l0) d0 d1 fun Hb sb hB => ⟨rfl, ?_⟩
  have hA2 := hA.keep ((q1.trans q2).trans sb)
  obtain ⟨dxa, _, _, _, _, eA, _⟩ := hA2.ob
  obtain ⟨dxb, _, _, _, _, eB, _⟩ := hB.ob
  refine ⟨xa, dxa, _, _, rfl, eA, A.QX.ty eB, A.nfc, xa, .ref xb, _, _, _, rfl, hA2, .inl ⟨xb, _, _, _, rfl, hB, _, rfl, _, rfl, ?_⟩⟩
  rw [if_pos (decide_eq_true ⟨rfl, rfl, rfl⟩)]
  -- its arity
  refine fun xc dc hxc hdc nec => spCl_ok (Cs := Cs) (CB := CB) (z := Str.ofString "a") (cs := []) (ds := []) hxc hdc nec (by decide +kernel) (.seq (A.s1 _) .nil l0) (.seq (A.s2 _) .nil l0) d0 d1 fun Hc' sc hC => ⟨rfl, ?_⟩
  obtain ⟨dxc, _, _, _, _, eC, _⟩ := hC.ob
  refine ⟨xc, dxc, _, rfl, eC, xc, _, _, _, rfl, hC, fun Hd' sd' => ⟨rfl, _, rfl, ?_⟩⟩
  rw [show decide (V.int (arOf ([] ++ [])) = V.int 0) = true from by decide +kernel, if_pos rfl]
  -- another
  refine fun xd dd hxd hdd ned => spCl_ok (Cs := Cs) (CB := CB) (z := Str.ofString "a") (cs := []) (ds := []) hxd hdd ned (by decide +kernel) (.seq (A.s1 _) .nil l0) (.seq (A.s2 _) .nil l0) d0 d1 fun He' se hD => ⟨rfl, ?_⟩
  refine fun xs ds' hxs hds' nes => ⟨(by show 1 ≤ sizeLine; decide), fun lb hlb => ?_⟩
  have t1 : Same He' (upd (upd He' ds' (.own xs)) xs (.ins (Cs .same) ds' [])) := (sameUpd (Same.refl _) hds').trans (sameUpd (Same.refl _) (by rw [upd_ne nes.symm]; exact hxs))
  have hS2 : PcA Cs (upd (upd He' ds' (.own xs)) xs (.ins (Cs .same) ds' [])) xs .same [] := ⟨⟨ds', upd_same⟩, rfl⟩
  have t2 := sameUpd (o := .lst [V.ref xs]) (Same.refl (upd (upd He' ds' (.own xs)) xs (.ins (Cs .same) ds' []))) hlb
  refine fun xe de hxe hde nee => spCl_ok (Cs := Cs) (CB := CB) (z := Str.ofString "a") (cs := [(.same, [])]) (ds := []) hxe hde nee (by decide +kernel) (.seq (.lst upd_same) (.cons (.pc (p := (.same, [])) (hS2.keep t2)) .nil) (by show 1 ≤ 2000; decide)) (.seq (A.s2 _) .nil l0) (by decide +kernel) d1 fun Hf' sf' hE => ⟨rfl, ?_⟩
  have hD2 := hD.keep ((t1.trans t2).trans sf')
  obtain ⟨dxd, _, _, _, _, eD, _⟩ := hD2.ob
  obtain ⟨dxe, _, _, _, _, eE, _⟩ := hE.ob
  refine ⟨xd, dxd, _, _, rfl, eD, A.QX.ty eE, A.nfc, xd, .ref xe, _, _, _, rfl, hD2, .inl ⟨xe, _, _, _, rfl, hE, _, rfl, ?_⟩⟩
  rw [show decide ((Str.ofString "a") = (Str.ofString "a") ∧ ([] : List Pc) = [(.same, [])] ∧ ([] : List Pc) = []) = false from decide_eq_false fun h => nomatch h.2.1]
  exact rfl
end Kx

set_option maxHeartbeats 8000000
namespace Kx
open PySem PySem.Spec PyProof.Rows L2
def pkAll : List Pk := [.room, .notroom, .is_, .isnot, .same, .apart, .least, .below, .to, .put, .zero, .run, .halt]
theorem all13 {p : Pk → Bool} (h : pkAll.all p = true) (k : Pk) : p k = true := List.all_eq_true.mp h k (by cases k <;> decide)
def mkCs (c_room c_notroom c_is_ c_isnot c_same c_apart c_least c_below c_to c_put c_zero c_run c_halt : Addr) : Pk → Addr
  | .room => c_room
  | .notroom => c_notroom
  | .is_ => c_is_
  | .isnot => c_isnot
  | .same => c_same
  | .apart => c_apart
  | .least => c_least
  | .below => c_below
  | .to => c_to
  | .put => c_put
  | .zero => c_zero
  | .run => c_run
  | .halt => c_halt
section
variable {K : PySem.W.Frag}
theorem clause_binds2 {e1 e2 f : Addr} {fd : FuncData} (F : FunD K "__init__" "Clause.__init__" (defArgs sClause_init) (defBody sClause_init) (defScope sClause_init) [V.ref e1, V.ref e2] [] f fd) : ∃ ds, Vals [V.ref e1, V.ref e2] ds ∧ Binds K fd ["self", "kind", "conditions", "changes"] ds := by
  obtain ⟨ds, r, b⟩ := F.binds1 (ps := ["self", "kind", "conditions", "changes"]) 2 0 (by simp) rfl fun T kV doc pm an cdv ct us its h1 h2 => match us, its, h1, h2 with | [_, _], [_, _], _, _ => ⟨_, rfl, rfl⟩
  exact ⟨ds, r, b⟩
theorem clause_binds3 {e1 e2 f : Addr} {fd : FuncData} (F : FunD K "__init__" "Clause.__init__" (defArgs sClause_init) (defBody sClause_init) (defScope sClause_init) [V.ref e1, V.ref e2] [] f fd) : ∃ ds, Vals [V.ref e2] ds ∧ Binds K fd ["self", "kind", "conditions", "changes"] ds := by
  obtain ⟨ds, r, b⟩ := F.binds1 (ps := ["self", "kind", "conditions", "changes"]) 3 1 (by simp) rfl fun T kV doc pm an cdv ct us its h1 h2 => match us, its, h1, h2 with | [_, _, _], [_, _], _, _ => ⟨_, rfl, rfl⟩
  exact ⟨ds, r, b⟩
theorem clause_binds4x {e1 e2 f : Addr} {fd : FuncData} (F : FunD K "__init__" "Clause.__init__" (defArgs sClause_init) (defBody sClause_init) (defScope sClause_init) [V.ref e1, V.ref e2] [] f fd) : ∃ ds, Vals [] ds ∧ Binds K fd ["self", "kind", "conditions", "changes"] ds := by
  obtain ⟨ds, r, b⟩ := F.binds1 (ps := ["self", "kind", "conditions", "changes"]) 4 2 (by simp) rfl fun T kV doc pm an cdv ct us its h1 h2 => match us, its, h1, h2 with | [_, _, _, _], [_, _], _, _ => ⟨_, rfl, rfl⟩
  exact ⟨ds, r, b⟩
theorem clause_binds4 {e1 e2 f : Addr} {fd : FuncData} (F : FunD K "__init__" "Clause.__init__" (defArgs sClause_init) (defBody sClause_init) (defScope sClause_init) [V.ref e1, V.ref e2] [] f fd) : Binds K fd ["self", "kind", "conditions", "changes"] [] := by
  obtain ⟨ds, r, b⟩ := clause_binds4x F
  cases r
  exact b
end
theorem all_mk {l : PySem.W.OpenLaw} {w : World} {K : PySem.W.Frag} {h : Heap} {mg : Str → Option Value} {fa : Addr} {t2 t3 t4 t5 r0 r1 r2 : Tok} (X : K.In h) (G : h.Ns mainGlobals mg) (hfa : mg "law" = some (.ref fa))
    {f0 f1 f2 f3 f4 f5 f6 f7 f8 f9 f10 f11 f12 f13 f14 f15 f16 f17 f18 f19 f20 f21 f22 f23 f24 f25 f26 f27 f28 f29 f30 f31 f32 f33 f34 f35 g0 g1 g2 g3 g4 g5 g6 g7 g8 g9 g10 g11 g12 g13 g14 g15 g16 g17 g18 g19 g20 g21 g22 g23 g24 g25 g26 g27 g28 g29 g30 g31 g32 g33 g34 g35 g36 g37 g38 g39 Croom Cnotroom Cis_ Cisnot Csame Capart Cleast Cbelow Cto Cput Czero Crun Chalt CC CB Bc Bh CS Cc Ch p0 pT e1 e2 aT : Addr} {od0 an0 od1 an1 od2 an2 od3 an3 od4 an4 od5 an5 od6 an6 od7 an7 od8 an8 od9 an9 od10 an10 od11 an11 od12 an12 od13 an13 od14 an14 od15 an15 od16 an16 od17 an17 od18 an18 od19 an19 od20 an20 od21 an21 od22 an22 od23 an23 od24 an24 od25 an25 od26 an26 od27 an27 od28 an28 od29 an29 od30 an30 od31 an31 od32 an32 od33 an33 od34 an34 od35 an35 pd0 bn0 pd1 bn1 pd2 bn2 pd3 bn3 pd4 bn4 pd5 bn5 pd6 bn6 pd7 bn7 pd8 bn8 pd9 bn9 pd10 bn10 pd11 bn11 pd12 bn12 pd13 bn13 pd14 bn14 pd15 bn15 pd16 bn16 pd17 bn17 pd18 bn18 pd19 bn19 pd20 bn20 pd21 bn21 pd22 bn22 pd23 bn23 pd24 bn24 pd25 bn25 pd26 bn26 pd27 bn27 pd28 bn28 pd29 bn29 pd30 bn30 pd31 bn31 pd32 bn32 pd33 bn33 pd34 bn34 pd35 bn35 pd36 bn36 pd37 bn37 pd38 bn38 pd39 bn39 tod eod eoe aod : Option Addr} {sl0 sl1 sl2 sl3 sl4 sl5 sl6 sl7 sl8 sl9 sl10 sl11 sl12 sl13 sl14 sl15 sl16 sl17 sl18 sl19 sl20 sl21 sl22 sl23 sl24 sl25 sl26 sl27 sl28 sl29 sl30 sl31 sl32 sl33 sl34 sl35 tl0 tl1 tl2 tl3 tl4 tl5 tl6 tl7 tl8 tl9 tl10 tl11 tl12 tl13 tl14 tl15 tl16 tl17 tl18 tl19 tl20 tl21 tl22 tl23 tl24 tl25 tl26 tl27 tl28 tl29 tl30 tl31 tl32 tl33 tl34 tl35 tl36 tl37 tl38 tl39 tsl esl esm asl : Array (Option Value)} {oc0 kV0 dc0 pm0 cd0 ct0 oc1 kV1 dc1 pm1 cd1 ct1 oc2 kV2 dc2 pm2 cd2 ct2 oc3 kV3 dc3 pm3 cd3 ct3 oc4 kV4 dc4 pm4 cd4 ct4 oc5 kV5 dc5 pm5 cd5 ct5 oc6 kV6 dc6 pm6 cd6 ct6 oc7 kV7 dc7 pm7 cd7 ct7 oc8 kV8 dc8 pm8 cd8 ct8 oc9 kV9 dc9 pm9 cd9 ct9 oc10 kV10 dc10 pm10 cd10 ct10 oc11 kV11 dc11 pm11 cd11 ct11 oc12 kV12 dc12 pm12 cd12 ct12 oc13 kV13 dc13 pm13 cd13 ct13 oc14 kV14 dc14 pm14 cd14 ct14 oc15 kV15 dc15 pm15 cd15 ct15 oc16 kV16 dc16 pm16 cd16 ct16 oc17 kV17 dc17 pm17 cd17 ct17 oc18 kV18 dc18 pm18 cd18 ct18 oc19 kV19 dc19 pm19 cd19 ct19 oc20 kV20 dc20 pm20 cd20 ct20 oc21 kV21 dc21 pm21 cd21 ct21 oc22 kV22 dc22 pm22 cd22 ct22 oc23 kV23 dc23 pm23 cd23 ct23 oc24 kV24 dc24 pm24 cd24 ct24 oc25 kV25 dc25 pm25 cd25 ct25 oc26 kV26 dc26 pm26 cd26 ct26 oc27 kV27 dc27 pm27 cd27 ct27 oc28 kV28 dc28 pm28 cd28 ct28 oc29 kV29 dc29 pm29 cd29 ct29 oc30 kV30 dc30 pm30 cd30 ct30 oc31 kV31 dc31 pm31 cd31 ct31 oc32 kV32 dc32 pm32 cd32 ct32 oc33 kV33 dc33 pm33 cd33 ct33 oc34 kV34 dc34 pm34 cd34 ct34 oc35 kV35 dc35 pm35 cd35 ct35 pc0 lV0 ec0 qm0 dd0 dt0 pc1 lV1 ec1 qm1 dd1 dt1 pc2 lV2 ec2 qm2 dd2 dt2 pc3 lV3 ec3 qm3 dd3 dt3 pc4 lV4 ec4 qm4 dd4 dt4 pc5 lV5 ec5 qm5 dd5 dt5 pc6 lV6 ec6 qm6 dd6 dt6 pc7 lV7 ec7 qm7 dd7 dt7 pc8 lV8 ec8 qm8 dd8 dt8 pc9 lV9 ec9 qm9 dd9 dt9 pc10 lV10 ec10 qm10 dd10 dt10 pc11 lV11 ec11 qm11 dd11 dt11 pc12 lV12 ec12 qm12 dd12 dt12 pc13 lV13 ec13 qm13 dd13 dt13 pc14 lV14 ec14 qm14 dd14 dt14 pc15 lV15 ec15 qm15 dd15 dt15 pc16 lV16 ec16 qm16 dd16 dt16 pc17 lV17 ec17 qm17 dd17 dt17 pc18 lV18 ec18 qm18 dd18 dt18 pc19 lV19 ec19 qm19 dd19 dt19 pc20 lV20 ec20 qm20 dd20 dt20 pc21 lV21 ec21 qm21 dd21 dt21 pc22 lV22 ec22 qm22 dd22 dt22 pc23 lV23 ec23 qm23 dd23 dt23 pc24 lV24 ec24 qm24 dd24 dt24 pc25 lV25 ec25 qm25 dd25 dt25 pc26 lV26 ec26 qm26 dd26 dt26 pc27 lV27 ec27 qm27 dd27 dt27 pc28 lV28 ec28 qm28 dd28 dt28 pc29 lV29 ec29 qm29 dd29 dt29 pc30 lV30 ec30 qm30 dd30 dt30 pc31 lV31 ec31 qm31 dd31 dt31 pc32 lV32 ec32 qm32 dd32 dt32 pc33 lV33 ec33 qm33 dd33 dt33 pc34 lV34 ec34 qm34 dd34 dt34 pc35 lV35 ec35 qm35 dd35 dt35 pc36 lV36 ec36 qm36 dd36 dt36 pc37 lV37 ec37 qm37 dd37 dt37 pc38 lV38 ec38 qm38 dd38 dt38 pc39 lV39 ec39 qm39 dd39 dt39 toc : Value} {rest0 : List Value} {tn en em anN : Nat}
    (a0 : PySem.W.nsIn K mainGlobals "is_whole" = some (some (.ref f0)))
    (l0 : K.lookup f0 = some ⟨oc0, od0, .func (PySem.W.fnOf "is_whole" "is_whole" (defArgs sWhole) (defBody sWhole) (defScope sWhole) .none kV0 dc0 pm0 an0 cd0 ct0), sl0⟩)
    (c0 : PySem.W.codeIn K cd0 "is_whole" = true)
    (k0 : PySem.W.keepIn K (.ref f0) = true)
    (a1 : PySem.W.nsIn K mainGlobals "is_label" = some (some (.ref f1)))
    (l1 : K.lookup f1 = some ⟨oc1, od1, .func (PySem.W.fnOf "is_label" "is_label" (defArgs sLabel) (defBody sLabel) (defScope sLabel) .none kV1 dc1 pm1 an1 cd1 ct1), sl1⟩)
    (c1 : PySem.W.codeIn K cd1 "is_label" = true)
    (k1 : PySem.W.keepIn K (.ref f1) = true)
    (a2 : PySem.W.nsIn K mainGlobals "is_sequence" = some (some (.ref f2)))
    (l2 : K.lookup f2 = some ⟨oc2, od2, .func (PySem.W.fnOf "is_sequence" "is_sequence" (defArgs sSeq) (defBody sSeq) (defScope sSeq) .none kV2 dc2 pm2 an2 cd2 ct2), sl2⟩)
    (c2 : PySem.W.codeIn K cd2 "is_sequence" = true)
    (k2 : PySem.W.keepIn K (.ref f2) = true)
    (a3 : PySem.W.nsIn K mainGlobals "is_seat_name" = some (some (.ref f3)))
    (l3 : K.lookup f3 = some ⟨oc3, od3, .func (PySem.W.fnOf "is_seat_name" "is_seat_name" (defArgs sIsSeatName) (defBody sIsSeatName) (defScope sIsSeatName) .none kV3 dc3 pm3 an3 cd3 ct3), sl3⟩)
    (c3 : PySem.W.codeIn K cd3 "is_seat_name" = true)
    (k3 : PySem.W.keepIn K (.ref f3) = true)
    (a4 : PySem.W.nsIn K mainGlobals "_seat_fault" = some (some (.ref f4)))
    (l4 : K.lookup f4 = some ⟨oc4, od4, .func (PySem.W.fnOf "_seat_fault" "_seat_fault" (defArgs sSeatFault) (defBody sSeatFault) (defScope sSeatFault) .none kV4 dc4 pm4 an4 cd4 ct4), sl4⟩)
    (c4 : PySem.W.codeIn K cd4 "_seat_fault" = true)
    (k4 : PySem.W.keepIn K (.ref f4) = true)
    (a5 : PySem.W.nsIn K mainGlobals "_number_fault" = some (some (.ref f5)))
    (l5 : K.lookup f5 = some ⟨oc5, od5, .func (PySem.W.fnOf "_number_fault" "_number_fault" (defArgs sNumberFault) (defBody sNumberFault) (defScope sNumberFault) .none kV5 dc5 pm5 an5 cd5 ct5), sl5⟩)
    (c5 : PySem.W.codeIn K cd5 "_number_fault" = true)
    (k5 : PySem.W.keepIn K (.ref f5) = true)
    (a6 : PySem.W.nsIn K mainGlobals "_check_conditions" = some (some (.ref f6)))
    (l6 : K.lookup f6 = some ⟨oc6, od6, .func (PySem.W.fnOf "_check_conditions" "_check_conditions" (defArgs sCheckConditions) (defBody sCheckConditions) (defScope sCheckConditions) .none kV6 dc6 pm6 an6 cd6 ct6), sl6⟩)
    (c6 : PySem.W.codeIn K cd6 "_check_conditions" = true)
    (k6 : PySem.W.keepIn K (.ref f6) = true)
    (a7 : PySem.W.nsIn K mainGlobals "_check_changes" = some (some (.ref f7)))
    (l7 : K.lookup f7 = some ⟨oc7, od7, .func (PySem.W.fnOf "_check_changes" "_check_changes" (defArgs sCheckChanges) (defBody sCheckChanges) (defScope sCheckChanges) .none kV7 dc7 pm7 an7 cd7 ct7), sl7⟩)
    (c7 : PySem.W.codeIn K cd7 "_check_changes" = true)
    (k7 : PySem.W.keepIn K (.ref f7) = true)
    (a8 : PySem.W.nsIn K mainGlobals "_changed_by" = some (some (.ref f8)))
    (l8 : K.lookup f8 = some ⟨oc8, od8, .func (PySem.W.fnOf "_changed_by" "_changed_by" (defArgs sChangedBy) (defBody sChangedBy) (defScope sChangedBy) .none kV8 dc8 pm8 an8 cd8 ct8), sl8⟩)
    (c8 : PySem.W.codeIn K cd8 "_changed_by" = true)
    (k8 : PySem.W.keepIn K (.ref f8) = true)
    (a9 : PySem.W.nsIn K mainGlobals "_law_mix" = some (some (.ref f9)))
    (l9 : K.lookup f9 = some ⟨oc9, od9, .func (PySem.W.fnOf "_law_mix" "_law_mix" (defArgs sMix) (defBody sMix) (defScope sMix) .none kV9 dc9 pm9 an9 cd9 ct9), sl9⟩)
    (c9 : PySem.W.codeIn K cd9 "_law_mix" = true)
    (k9 : PySem.W.keepIn K (.ref f9) = true)
    (a10 : PySem.W.nsIn K mainGlobals "_law_hand" = some (some (.ref f10)))
    (l10 : K.lookup f10 = some ⟨oc10, od10, .func (PySem.W.fnOf "_law_hand" "_law_hand" (defArgs sHand) (defBody sHand) (defScope sHand) .none kV10 dc10 pm10 an10 cd10 ct10), sl10⟩)
    (c10 : PySem.W.codeIn K cd10 "_law_hand" = true)
    (k10 : PySem.W.keepIn K (.ref f10) = true)
    (a11 : PySem.W.nsIn K mainGlobals "_law_draw" = some (some (.ref f11)))
    (l11 : K.lookup f11 = some ⟨oc11, od11, .func (PySem.W.fnOf "_law_draw" "_law_draw" (defArgs sDraw) (defBody sDraw) (defScope sDraw) .none kV11 dc11 pm11 an11 cd11 ct11), sl11⟩)
    (c11 : PySem.W.codeIn K cd11 "_law_draw" = true)
    (k11 : PySem.W.keepIn K (.ref f11) = true)
    (a12 : PySem.W.nsIn K mainGlobals "_law_one" = some (some (.ref f12)))
    (l12 : K.lookup f12 = some ⟨oc12, od12, .func (PySem.W.fnOf "_law_one" "_law_one" (defArgs sOne) (defBody sOne) (defScope sOne) .none kV12 dc12 pm12 an12 cd12 ct12), sl12⟩)
    (c12 : PySem.W.codeIn K cd12 "_law_one" = true)
    (k12 : PySem.W.keepIn K (.ref f12) = true)
    (a13 : PySem.W.nsIn K mainGlobals "_law_piece" = some (some (.ref f13)))
    (l13 : K.lookup f13 = some ⟨oc13, od13, .func (PySem.W.fnOf "_law_piece" "_law_piece" (defArgs sLPiece) (defBody sLPiece) (defScope sLPiece) .none kV13 dc13 pm13 an13 cd13 ct13), sl13⟩)
    (c13 : PySem.W.codeIn K cd13 "_law_piece" = true)
    (k13 : PySem.W.keepIn K (.ref f13) = true)
    (a14 : PySem.W.nsIn K mainGlobals "_law_letters" = some (some (.ref f14)))
    (l14 : K.lookup f14 = some ⟨oc14, od14, .func (PySem.W.fnOf "_law_letters" "_law_letters" (defArgs sLLetters) (defBody sLLetters) (defScope sLLetters) .none kV14 dc14 pm14 an14 cd14 ct14), sl14⟩)
    (c14 : PySem.W.codeIn K cd14 "_law_letters" = true)
    (k14 : PySem.W.keepIn K (.ref f14) = true)
    (a15 : PySem.W.nsIn K mainGlobals "_law_whole" = some (some (.ref f15)))
    (l15 : K.lookup f15 = some ⟨oc15, od15, .func (PySem.W.fnOf "_law_whole" "_law_whole" (defArgs sLWhole) (defBody sLWhole) (defScope sLWhole) .none kV15 dc15 pm15 an15 cd15 ct15), sl15⟩)
    (c15 : PySem.W.codeIn K cd15 "_law_whole" = true)
    (k15 : PySem.W.keepIn K (.ref f15) = true)
    (a16 : PySem.W.nsIn K mainGlobals "_law_label" = some (some (.ref f16)))
    (l16 : K.lookup f16 = some ⟨oc16, od16, .func (PySem.W.fnOf "_law_label" "_law_label" (defArgs sLLabel) (defBody sLLabel) (defScope sLLabel) .none kV16 dc16 pm16 an16 cd16 ct16), sl16⟩)
    (c16 : PySem.W.codeIn K cd16 "_law_label" = true)
    (k16 : PySem.W.keepIn K (.ref f16) = true)
    (a17 : PySem.W.nsIn K mainGlobals "_law_thing" = some (some (.ref f17)))
    (l17 : K.lookup f17 = some ⟨oc17, od17, .func (PySem.W.fnOf "_law_thing" "_law_thing" (defArgs sLThing) (defBody sLThing) (defScope sLThing) .none kV17 dc17 pm17 an17 cd17 ct17), sl17⟩)
    (c17 : PySem.W.codeIn K cd17 "_law_thing" = true)
    (k17 : PySem.W.keepIn K (.ref f17) = true)
    (a18 : PySem.W.nsIn K mainGlobals "_law_number" = some (some (.ref f18)))
    (l18 : K.lookup f18 = some ⟨oc18, od18, .func (PySem.W.fnOf "_law_number" "_law_number" (defArgs sLNumber) (defBody sLNumber) (defScope sLNumber) .none kV18 dc18 pm18 an18 cd18 ct18), sl18⟩)
    (c18 : PySem.W.codeIn K cd18 "_law_number" = true)
    (k18 : PySem.W.keepIn K (.ref f18) = true)
    (a19 : PySem.W.nsIn K mainGlobals "_law_words" = some (some (.ref f19)))
    (l19 : K.lookup f19 = some ⟨oc19, od19, .func (PySem.W.fnOf "_law_words" "_law_words" (defArgs sLWords) (defBody sLWords) (defScope sLWords) .none kV19 dc19 pm19 an19 cd19 ct19), sl19⟩)
    (c19 : PySem.W.codeIn K cd19 "_law_words" = true)
    (k19 : PySem.W.keepIn K (.ref f19) = true)
    (a20 : PySem.W.nsIn K mainGlobals "_law_piece_word" = some (some (.ref f20)))
    (l20 : K.lookup f20 = some ⟨oc20, od20, .func (PySem.W.fnOf "_law_piece_word" "_law_piece_word" (defArgs sLPieceWord) (defBody sLPieceWord) (defScope sLPieceWord) .none kV20 dc20 pm20 an20 cd20 ct20), sl20⟩)
    (c20 : PySem.W.codeIn K cd20 "_law_piece_word" = true)
    (k20 : PySem.W.keepIn K (.ref f20) = true)
    (a21 : PySem.W.nsIn K mainGlobals "_law_try_piece" = some (some (.ref f21)))
    (l21 : K.lookup f21 = some ⟨oc21, od21, .func (PySem.W.fnOf "_law_try_piece" "_law_try_piece" (defArgs sLTryPiece) (defBody sLTryPiece) (defScope sLTryPiece) .none kV21 dc21 pm21 an21 cd21 ct21), sl21⟩)
    (c21 : PySem.W.codeIn K cd21 "_law_try_piece" = true)
    (k21 : PySem.W.keepIn K (.ref f21) = true)
    (a22 : PySem.W.nsIn K mainGlobals "_law_class" = some (some (.ref f22)))
    (l22 : K.lookup f22 = some ⟨oc22, od22, .func (PySem.W.fnOf "_law_class" "_law_class" (defArgs sLClass) (defBody sLClass) (defScope sLClass) .none kV22 dc22 pm22 an22 cd22 ct22), sl22⟩)
    (c22 : PySem.W.codeIn K cd22 "_law_class" = true)
    (k22 : PySem.W.keepIn K (.ref f22) = true)
    (a23 : PySem.W.nsIn K mainGlobals "_law_row" = some (some (.ref f23)))
    (l23 : K.lookup f23 = some ⟨oc23, od23, .func (PySem.W.fnOf "_law_row" "_law_row" (defArgs sLRow) (defBody sLRow) (defScope sLRow) .none kV23 dc23 pm23 an23 cd23 ct23), sl23⟩)
    (c23 : PySem.W.codeIn K cd23 "_law_row" = true)
    (k23 : PySem.W.keepIn K (.ref f23) = true)
    (a24 : PySem.W.nsIn K mainGlobals "_law_piece_right" = some (some (.ref f24)))
    (l24 : K.lookup f24 = some ⟨oc24, od24, .func (PySem.W.fnOf "_law_piece_right" "_law_piece_right" (defArgs sLPieceRight) (defBody sLPieceRight) (defScope sLPieceRight) .none kV24 dc24 pm24 an24 cd24 ct24), sl24⟩)
    (c24 : PySem.W.codeIn K cd24 "_law_piece_right" = true)
    (k24 : PySem.W.keepIn K (.ref f24) = true)
    (a25 : PySem.W.nsIn K mainGlobals "_law_drawn_piece" = some (some (.ref f25)))
    (l25 : K.lookup f25 = some ⟨oc25, od25, .func (PySem.W.fnOf "_law_drawn_piece" "_law_drawn_piece" (defArgs sLDrawnPiece) (defBody sLDrawnPiece) (defScope sLDrawnPiece) .none kV25 dc25 pm25 an25 cd25 ct25), sl25⟩)
    (c25 : PySem.W.codeIn K cd25 "_law_drawn_piece" = true)
    (k25 : PySem.W.keepIn K (.ref f25) = true)
    (a26 : PySem.W.nsIn K mainGlobals "_law_few" = some (some (.ref f26)))
    (l26 : K.lookup f26 = some ⟨oc26, od26, .func (PySem.W.fnOf "_law_few" "_law_few" (defArgs sLFew) (defBody sLFew) (defScope sLFew) .none kV26 dc26 pm26 an26 cd26 ct26), sl26⟩)
    (c26 : PySem.W.codeIn K cd26 "_law_few" = true)
    (k26 : PySem.W.keepIn K (.ref f26) = true)
    (a27 : PySem.W.nsIn K mainGlobals "_law_clause_parts" = some (some (.ref f27)))
    (l27 : K.lookup f27 = some ⟨oc27, od27, .func (PySem.W.fnOf "_law_clause_parts" "_law_clause_parts" (defArgs sLClauseParts) (defBody sLClauseParts) (defScope sLClauseParts) .none kV27 dc27 pm27 an27 cd27 ct27), sl27⟩)
    (c27 : PySem.W.codeIn K cd27 "_law_clause_parts" = true)
    (k27 : PySem.W.keepIn K (.ref f27) = true)
    (a28 : PySem.W.nsIn K mainGlobals "_law_changed_thing" = some (some (.ref f28)))
    (l28 : K.lookup f28 = some ⟨oc28, od28, .func (PySem.W.fnOf "_law_changed_thing" "_law_changed_thing" (defArgs sLChangedThing) (defBody sLChangedThing) (defScope sLChangedThing) .none kV28 dc28 pm28 an28 cd28 ct28), sl28⟩)
    (c28 : PySem.W.codeIn K cd28 "_law_changed_thing" = true)
    (k28 : PySem.W.keepIn K (.ref f28) = true)
    (a29 : PySem.W.nsIn K mainGlobals "_law_clause_word" = some (some (.ref f29)))
    (l29 : K.lookup f29 = some ⟨oc29, od29, .func (PySem.W.fnOf "_law_clause_word" "_law_clause_word" (defArgs sLClauseWord) (defBody sLClauseWord) (defScope sLClauseWord) .none kV29 dc29 pm29 an29 cd29 ct29), sl29⟩)
    (c29 : PySem.W.codeIn K cd29 "_law_clause_word" = true)
    (k29 : PySem.W.keepIn K (.ref f29) = true)
    (a30 : PySem.W.nsIn K mainGlobals "_law_try_clause" = some (some (.ref f30)))
    (l30 : K.lookup f30 = some ⟨oc30, od30, .func (PySem.W.fnOf "_law_try_clause" "_law_try_clause" (defArgs sLTryClause) (defBody sLTryClause) (defScope sLTryClause) .none kV30 dc30 pm30 an30 cd30 ct30), sl30⟩)
    (c30 : PySem.W.codeIn K cd30 "_law_try_clause" = true)
    (k30 : PySem.W.keepIn K (.ref f30) = true)
    (a31 : PySem.W.nsIn K mainGlobals "_law_pieces" = some (some (.ref f31)))
    (l31 : K.lookup f31 = some ⟨oc31, od31, .func (PySem.W.fnOf "_law_pieces" "_law_pieces" (defArgs sLPieces) (defBody sLPieces) (defScope sLPieces) .none kV31 dc31 pm31 an31 cd31 ct31), sl31⟩)
    (c31 : PySem.W.codeIn K cd31 "_law_pieces" = true)
    (k31 : PySem.W.keepIn K (.ref f31) = true)
    (a32 : PySem.W.nsIn K mainGlobals "_law_clause_is" = some (some (.ref f32)))
    (l32 : K.lookup f32 = some ⟨oc32, od32, .func (PySem.W.fnOf "_law_clause_is" "_law_clause_is" (defArgs sLClauseIs) (defBody sLClauseIs) (defScope sLClauseIs) .none kV32 dc32 pm32 an32 cd32 ct32), sl32⟩)
    (c32 : PySem.W.codeIn K cd32 "_law_clause_is" = true)
    (k32 : PySem.W.keepIn K (.ref f32) = true)
    (a33 : PySem.W.nsIn K mainGlobals "_law_more" = some (some (.ref f33)))
    (l33 : K.lookup f33 = some ⟨oc33, od33, .func (PySem.W.fnOf "_law_more" "_law_more" (defArgs sLMore) (defBody sLMore) (defScope sLMore) .none kV33 dc33 pm33 an33 cd33 ct33), sl33⟩)
    (c33 : PySem.W.codeIn K cd33 "_law_more" = true)
    (k33 : PySem.W.keepIn K (.ref f33) = true)
    (a34 : PySem.W.nsIn K mainGlobals "_law_splits" = some (some (.ref f34)))
    (l34 : K.lookup f34 = some ⟨oc34, od34, .func (PySem.W.fnOf "_law_splits" "_law_splits" (defArgs sLSplits) (defBody sLSplits) (defScope sLSplits) .none kV34 dc34 pm34 an34 cd34 ct34), sl34⟩)
    (c34 : PySem.W.codeIn K cd34 "_law_splits" = true)
    (k34 : PySem.W.keepIn K (.ref f34) = true)
    (a35 : PySem.W.nsIn K mainGlobals "law" = some (some (.ref f35)))
    (l35 : K.lookup f35 = some ⟨oc35, od35, .func (PySem.W.fnOf "law" "law" (defArgs sLaw) (defBody sLaw) (defScope sLaw) .none kV35 dc35 pm35 an35 cd35 ct35), sl35⟩)
    (c35 : PySem.W.codeIn K cd35 "law" = true)
    (k35 : PySem.W.keepIn K (.ref f35) = true)
    (mCroom : PySem.W.nsIn K mainGlobals "InRoom" = some (some (.ref Croom)))
    (mCnotroom : PySem.W.nsIn K mainGlobals "NotInRoom" = some (some (.ref Cnotroom)))
    (mCis_ : PySem.W.nsIn K mainGlobals "Is" = some (some (.ref Cis_)))
    (mCisnot : PySem.W.nsIn K mainGlobals "IsNot" = some (some (.ref Cisnot)))
    (mCsame : PySem.W.nsIn K mainGlobals "SamePerson" = some (some (.ref Csame)))
    (mCapart : PySem.W.nsIn K mainGlobals "Apart" = some (some (.ref Capart)))
    (mCleast : PySem.W.nsIn K mainGlobals "AtLeast" = some (some (.ref Cleast)))
    (mCbelow : PySem.W.nsIn K mainGlobals "Below" = some (some (.ref Cbelow)))
    (mCto : PySem.W.nsIn K mainGlobals "ToRoom" = some (some (.ref Cto)))
    (mCput : PySem.W.nsIn K mainGlobals "Put" = some (some (.ref Cput)))
    (mCzero : PySem.W.nsIn K mainGlobals "Zero" = some (some (.ref Czero)))
    (mCrun : PySem.W.nsIn K mainGlobals "Run" = some (some (.ref Crun)))
    (mChalt : PySem.W.nsIn K mainGlobals "Halt" = some (some (.ref Chalt)))
    (mCC : PySem.W.nsIn K mainGlobals "Clause" = some (some (.ref CC)))
    (mCB : PySem.W.nsIn K mainGlobals "BadClause" = some (some (.ref CB)))
    (mBc : PySem.W.nsIn K mainGlobals "BadCondition" = some (some (.ref Bc)))
    (mBh : PySem.W.nsIn K mainGlobals "BadChange" = some (some (.ref Bh)))
    (mCS : PySem.W.nsIn K mainGlobals "SearchError" = some (some (.ref CS)))
    (mCc : PySem.W.nsIn K mainGlobals "Condition" = some (some (.ref Cc)))
    (mCh : PySem.W.nsIn K mainGlobals "Change" = some (some (.ref Ch)))
    (M0 : PySem.W.findIn K (.ref Bc) "__init__" = some (some (.ref g0)))
    (L0 : K.lookup g0 = some ⟨pc0, pd0, .func (PySem.W.fnOf "__init__" "BadCondition.__init__" (defArgs sBadCondition_init) (defBody sBadCondition_init) (defScope sBadCondition_init) .none lV0 ec0 qm0 bn0 dd0 dt0), tl0⟩)
    (D0 : PySem.W.codeIn K dd0 "BadCondition.__init__" = true)
    (N0 : PySem.W.keepIn K (.ref g0) = true)
    (T0 : PySem.W.typeIn K (.ref g0) = some (.type "function"))
    (M1 : PySem.W.findIn K (.ref Bh) "__init__" = some (some (.ref g1)))
    (L1 : K.lookup g1 = some ⟨pc1, pd1, .func (PySem.W.fnOf "__init__" "BadChange.__init__" (defArgs sBadChange_init) (defBody sBadChange_init) (defScope sBadChange_init) .none lV1 ec1 qm1 bn1 dd1 dt1), tl1⟩)
    (D1 : PySem.W.codeIn K dd1 "BadChange.__init__" = true)
    (N1 : PySem.W.keepIn K (.ref g1) = true)
    (T1 : PySem.W.typeIn K (.ref g1) = some (.type "function"))
    (M2 : PySem.W.findIn K (.ref CB) "__init__" = some (some (.ref g2)))
    (L2 : K.lookup g2 = some ⟨pc2, pd2, .func (PySem.W.fnOf "__init__" "BadClause.__init__" (defArgs sBadClause_init) (defBody sBadClause_init) (defScope sBadClause_init) .none lV2 ec2 qm2 bn2 dd2 dt2), tl2⟩)
    (D2 : PySem.W.codeIn K dd2 "BadClause.__init__" = true)
    (N2 : PySem.W.keepIn K (.ref g2) = true)
    (T2 : PySem.W.typeIn K (.ref g2) = some (.type "function"))
    (M3 : PySem.W.findIn K (.ref CC) "__eq__" = some (some (.ref g3)))
    (L3 : K.lookup g3 = some ⟨pc3, pd3, .func (PySem.W.fnOf "__eq__" "Clause.__eq__" (defArgs sClause_eq) (defBody sClause_eq) (defScope sClause_eq) .none lV3 ec3 qm3 bn3 dd3 dt3), tl3⟩)
    (D3 : PySem.W.codeIn K dd3 "Clause.__eq__" = true)
    (N3 : PySem.W.keepIn K (.ref g3) = true)
    (T3 : PySem.W.typeIn K (.ref g3) = some (.type "function"))
    (M4 : PySem.W.findIn K (.ref CC) "with_condition" = some (some (.ref g4)))
    (L4 : K.lookup g4 = some ⟨pc4, pd4, .func (PySem.W.fnOf "with_condition" "Clause.with_condition" (defArgs sClause_with_condition) (defBody sClause_with_condition) (defScope sClause_with_condition) .none lV4 ec4 qm4 bn4 dd4 dt4), tl4⟩)
    (D4 : PySem.W.codeIn K dd4 "Clause.with_condition" = true)
    (N4 : PySem.W.keepIn K (.ref g4) = true)
    (T4 : PySem.W.typeIn K (.ref g4) = some (.type "function"))
    (M5 : PySem.W.findIn K (.ref CC) "split" = some (some (.ref g5)))
    (L5 : K.lookup g5 = some ⟨pc5, pd5, .func (PySem.W.fnOf "split" "Clause.split" (defArgs sClause_split) (defBody sClause_split) (defScope sClause_split) .none lV5 ec5 qm5 bn5 dd5 dt5), tl5⟩)
    (D5 : PySem.W.codeIn K dd5 "Clause.split" = true)
    (N5 : PySem.W.keepIn K (.ref g5) = true)
    (T5 : PySem.W.typeIn K (.ref g5) = some (.type "function"))
    (M6 : PySem.W.findIn K (.ref Croom) "__init__" = some (some (.ref g6)))
    (L6 : K.lookup g6 = some ⟨pc6, pd6, .func (PySem.W.fnOf "__init__" "InRoom.__init__" (defArgs sInRoom_init) (defBody sInRoom_init) (defScope sInRoom_init) .none lV6 ec6 qm6 bn6 dd6 dt6), tl6⟩)
    (D6 : PySem.W.codeIn K dd6 "InRoom.__init__" = true)
    (N6 : PySem.W.keepIn K (.ref g6) = true)
    (T6 : PySem.W.typeIn K (.ref g6) = some (.type "function"))
    (M7 : PySem.W.findIn K (.ref Croom) "__eq__" = some (some (.ref g7)))
    (L7 : K.lookup g7 = some ⟨pc7, pd7, .func (PySem.W.fnOf "__eq__" "InRoom.__eq__" (defArgs sInRoom_eq) (defBody sInRoom_eq) (defScope sInRoom_eq) .none lV7 ec7 qm7 bn7 dd7 dt7), tl7⟩)
    (D7 : PySem.W.codeIn K dd7 "InRoom.__eq__" = true)
    (N7 : PySem.W.keepIn K (.ref g7) = true)
    (T7 : PySem.W.typeIn K (.ref g7) = some (.type "function"))
    (M8 : PySem.W.findIn K (.ref Croom) "opposite" = some (some (.ref g8)))
    (L8 : K.lookup g8 = some ⟨pc8, pd8, .func (PySem.W.fnOf "opposite" "InRoom.opposite" (defArgs sInRoom_opposite) (defBody sInRoom_opposite) (defScope sInRoom_opposite) .none lV8 ec8 qm8 bn8 dd8 dt8), tl8⟩)
    (D8 : PySem.W.codeIn K dd8 "InRoom.opposite" = true)
    (N8 : PySem.W.keepIn K (.ref g8) = true)
    (T8 : PySem.W.typeIn K (.ref g8) = some (.type "function"))
    (M9 : PySem.W.findIn K (.ref Cnotroom) "__init__" = some (some (.ref g9)))
    (L9 : K.lookup g9 = some ⟨pc9, pd9, .func (PySem.W.fnOf "__init__" "NotInRoom.__init__" (defArgs sNotInRoom_init) (defBody sNotInRoom_init) (defScope sNotInRoom_init) .none lV9 ec9 qm9 bn9 dd9 dt9), tl9⟩)
    (D9 : PySem.W.codeIn K dd9 "NotInRoom.__init__" = true)
    (N9 : PySem.W.keepIn K (.ref g9) = true)
    (T9 : PySem.W.typeIn K (.ref g9) = some (.type "function"))
    (M10 : PySem.W.findIn K (.ref Cnotroom) "__eq__" = some (some (.ref g10)))
    (L10 : K.lookup g10 = some ⟨pc10, pd10, .func (PySem.W.fnOf "__eq__" "NotInRoom.__eq__" (defArgs sNotInRoom_eq) (defBody sNotInRoom_eq) (defScope sNotInRoom_eq) .none lV10 ec10 qm10 bn10 dd10 dt10), tl10⟩)
    (D10 : PySem.W.codeIn K dd10 "NotInRoom.__eq__" = true)
    (N10 : PySem.W.keepIn K (.ref g10) = true)
    (T10 : PySem.W.typeIn K (.ref g10) = some (.type "function"))
    (M11 : PySem.W.findIn K (.ref Cnotroom) "opposite" = some (some (.ref g11)))
    (L11 : K.lookup g11 = some ⟨pc11, pd11, .func (PySem.W.fnOf "opposite" "NotInRoom.opposite" (defArgs sNotInRoom_opposite) (defBody sNotInRoom_opposite) (defScope sNotInRoom_opposite) .none lV11 ec11 qm11 bn11 dd11 dt11), tl11⟩)
    (D11 : PySem.W.codeIn K dd11 "NotInRoom.opposite" = true)
    (N11 : PySem.W.keepIn K (.ref g11) = true)
    (T11 : PySem.W.typeIn K (.ref g11) = some (.type "function"))
    (M12 : PySem.W.findIn K (.ref Cis_) "__init__" = some (some (.ref g12)))
    (L12 : K.lookup g12 = some ⟨pc12, pd12, .func (PySem.W.fnOf "__init__" "Is.__init__" (defArgs sIs_init) (defBody sIs_init) (defScope sIs_init) .none lV12 ec12 qm12 bn12 dd12 dt12), tl12⟩)
    (D12 : PySem.W.codeIn K dd12 "Is.__init__" = true)
    (N12 : PySem.W.keepIn K (.ref g12) = true)
    (T12 : PySem.W.typeIn K (.ref g12) = some (.type "function"))
    (M13 : PySem.W.findIn K (.ref Cis_) "__eq__" = some (some (.ref g13)))
    (L13 : K.lookup g13 = some ⟨pc13, pd13, .func (PySem.W.fnOf "__eq__" "Is.__eq__" (defArgs sIs_eq) (defBody sIs_eq) (defScope sIs_eq) .none lV13 ec13 qm13 bn13 dd13 dt13), tl13⟩)
    (D13 : PySem.W.codeIn K dd13 "Is.__eq__" = true)
    (N13 : PySem.W.keepIn K (.ref g13) = true)
    (T13 : PySem.W.typeIn K (.ref g13) = some (.type "function"))
    (M14 : PySem.W.findIn K (.ref Cis_) "opposite" = some (some (.ref g14)))
    (L14 : K.lookup g14 = some ⟨pc14, pd14, .func (PySem.W.fnOf "opposite" "Is.opposite" (defArgs sIs_opposite) (defBody sIs_opposite) (defScope sIs_opposite) .none lV14 ec14 qm14 bn14 dd14 dt14), tl14⟩)
    (D14 : PySem.W.codeIn K dd14 "Is.opposite" = true)
    (N14 : PySem.W.keepIn K (.ref g14) = true)
    (T14 : PySem.W.typeIn K (.ref g14) = some (.type "function"))
    (M15 : PySem.W.findIn K (.ref Cisnot) "__init__" = some (some (.ref g15)))
    (L15 : K.lookup g15 = some ⟨pc15, pd15, .func (PySem.W.fnOf "__init__" "IsNot.__init__" (defArgs sIsNot_init) (defBody sIsNot_init) (defScope sIsNot_init) .none lV15 ec15 qm15 bn15 dd15 dt15), tl15⟩)
    (D15 : PySem.W.codeIn K dd15 "IsNot.__init__" = true)
    (N15 : PySem.W.keepIn K (.ref g15) = true)
    (T15 : PySem.W.typeIn K (.ref g15) = some (.type "function"))
    (M16 : PySem.W.findIn K (.ref Cisnot) "__eq__" = some (some (.ref g16)))
    (L16 : K.lookup g16 = some ⟨pc16, pd16, .func (PySem.W.fnOf "__eq__" "IsNot.__eq__" (defArgs sIsNot_eq) (defBody sIsNot_eq) (defScope sIsNot_eq) .none lV16 ec16 qm16 bn16 dd16 dt16), tl16⟩)
    (D16 : PySem.W.codeIn K dd16 "IsNot.__eq__" = true)
    (N16 : PySem.W.keepIn K (.ref g16) = true)
    (T16 : PySem.W.typeIn K (.ref g16) = some (.type "function"))
    (M17 : PySem.W.findIn K (.ref Cisnot) "opposite" = some (some (.ref g17)))
    (L17 : K.lookup g17 = some ⟨pc17, pd17, .func (PySem.W.fnOf "opposite" "IsNot.opposite" (defArgs sIsNot_opposite) (defBody sIsNot_opposite) (defScope sIsNot_opposite) .none lV17 ec17 qm17 bn17 dd17 dt17), tl17⟩)
    (D17 : PySem.W.codeIn K dd17 "IsNot.opposite" = true)
    (N17 : PySem.W.keepIn K (.ref g17) = true)
    (T17 : PySem.W.typeIn K (.ref g17) = some (.type "function"))
    (M18 : PySem.W.findIn K (.ref Csame) "__eq__" = some (some (.ref g18)))
    (L18 : K.lookup g18 = some ⟨pc18, pd18, .func (PySem.W.fnOf "__eq__" "SamePerson.__eq__" (defArgs sSamePerson_eq) (defBody sSamePerson_eq) (defScope sSamePerson_eq) .none lV18 ec18 qm18 bn18 dd18 dt18), tl18⟩)
    (D18 : PySem.W.codeIn K dd18 "SamePerson.__eq__" = true)
    (N18 : PySem.W.keepIn K (.ref g18) = true)
    (T18 : PySem.W.typeIn K (.ref g18) = some (.type "function"))
    (M19 : PySem.W.findIn K (.ref Csame) "opposite" = some (some (.ref g19)))
    (L19 : K.lookup g19 = some ⟨pc19, pd19, .func (PySem.W.fnOf "opposite" "SamePerson.opposite" (defArgs sSamePerson_opposite) (defBody sSamePerson_opposite) (defScope sSamePerson_opposite) .none lV19 ec19 qm19 bn19 dd19 dt19), tl19⟩)
    (D19 : PySem.W.codeIn K dd19 "SamePerson.opposite" = true)
    (N19 : PySem.W.keepIn K (.ref g19) = true)
    (T19 : PySem.W.typeIn K (.ref g19) = some (.type "function"))
    (M20 : PySem.W.findIn K (.ref Capart) "__eq__" = some (some (.ref g20)))
    (L20 : K.lookup g20 = some ⟨pc20, pd20, .func (PySem.W.fnOf "__eq__" "Apart.__eq__" (defArgs sApart_eq) (defBody sApart_eq) (defScope sApart_eq) .none lV20 ec20 qm20 bn20 dd20 dt20), tl20⟩)
    (D20 : PySem.W.codeIn K dd20 "Apart.__eq__" = true)
    (N20 : PySem.W.keepIn K (.ref g20) = true)
    (T20 : PySem.W.typeIn K (.ref g20) = some (.type "function"))
    (M21 : PySem.W.findIn K (.ref Capart) "opposite" = some (some (.ref g21)))
    (L21 : K.lookup g21 = some ⟨pc21, pd21, .func (PySem.W.fnOf "opposite" "Apart.opposite" (defArgs sApart_opposite) (defBody sApart_opposite) (defScope sApart_opposite) .none lV21 ec21 qm21 bn21 dd21 dt21), tl21⟩)
    (D21 : PySem.W.codeIn K dd21 "Apart.opposite" = true)
    (N21 : PySem.W.keepIn K (.ref g21) = true)
    (T21 : PySem.W.typeIn K (.ref g21) = some (.type "function"))
    (M22 : PySem.W.findIn K (.ref Cleast) "__init__" = some (some (.ref g22)))
    (L22 : K.lookup g22 = some ⟨pc22, pd22, .func (PySem.W.fnOf "__init__" "AtLeast.__init__" (defArgs sAtLeast_init) (defBody sAtLeast_init) (defScope sAtLeast_init) .none lV22 ec22 qm22 bn22 dd22 dt22), tl22⟩)
    (D22 : PySem.W.codeIn K dd22 "AtLeast.__init__" = true)
    (N22 : PySem.W.keepIn K (.ref g22) = true)
    (T22 : PySem.W.typeIn K (.ref g22) = some (.type "function"))
    (M23 : PySem.W.findIn K (.ref Cleast) "__eq__" = some (some (.ref g23)))
    (L23 : K.lookup g23 = some ⟨pc23, pd23, .func (PySem.W.fnOf "__eq__" "AtLeast.__eq__" (defArgs sAtLeast_eq) (defBody sAtLeast_eq) (defScope sAtLeast_eq) .none lV23 ec23 qm23 bn23 dd23 dt23), tl23⟩)
    (D23 : PySem.W.codeIn K dd23 "AtLeast.__eq__" = true)
    (N23 : PySem.W.keepIn K (.ref g23) = true)
    (T23 : PySem.W.typeIn K (.ref g23) = some (.type "function"))
    (M24 : PySem.W.findIn K (.ref Cleast) "opposite" = some (some (.ref g24)))
    (L24 : K.lookup g24 = some ⟨pc24, pd24, .func (PySem.W.fnOf "opposite" "AtLeast.opposite" (defArgs sAtLeast_opposite) (defBody sAtLeast_opposite) (defScope sAtLeast_opposite) .none lV24 ec24 qm24 bn24 dd24 dt24), tl24⟩)
    (D24 : PySem.W.codeIn K dd24 "AtLeast.opposite" = true)
    (N24 : PySem.W.keepIn K (.ref g24) = true)
    (T24 : PySem.W.typeIn K (.ref g24) = some (.type "function"))
    (M25 : PySem.W.findIn K (.ref Cbelow) "__init__" = some (some (.ref g25)))
    (L25 : K.lookup g25 = some ⟨pc25, pd25, .func (PySem.W.fnOf "__init__" "Below.__init__" (defArgs sBelow_init) (defBody sBelow_init) (defScope sBelow_init) .none lV25 ec25 qm25 bn25 dd25 dt25), tl25⟩)
    (D25 : PySem.W.codeIn K dd25 "Below.__init__" = true)
    (N25 : PySem.W.keepIn K (.ref g25) = true)
    (T25 : PySem.W.typeIn K (.ref g25) = some (.type "function"))
    (M26 : PySem.W.findIn K (.ref Cbelow) "__eq__" = some (some (.ref g26)))
    (L26 : K.lookup g26 = some ⟨pc26, pd26, .func (PySem.W.fnOf "__eq__" "Below.__eq__" (defArgs sBelow_eq) (defBody sBelow_eq) (defScope sBelow_eq) .none lV26 ec26 qm26 bn26 dd26 dt26), tl26⟩)
    (D26 : PySem.W.codeIn K dd26 "Below.__eq__" = true)
    (N26 : PySem.W.keepIn K (.ref g26) = true)
    (T26 : PySem.W.typeIn K (.ref g26) = some (.type "function"))
    (M27 : PySem.W.findIn K (.ref Cbelow) "opposite" = some (some (.ref g27)))
    (L27 : K.lookup g27 = some ⟨pc27, pd27, .func (PySem.W.fnOf "opposite" "Below.opposite" (defArgs sBelow_opposite) (defBody sBelow_opposite) (defScope sBelow_opposite) .none lV27 ec27 qm27 bn27 dd27 dt27), tl27⟩)
    (D27 : PySem.W.codeIn K dd27 "Below.opposite" = true)
    (N27 : PySem.W.keepIn K (.ref g27) = true)
    (T27 : PySem.W.typeIn K (.ref g27) = some (.type "function"))
    (M28 : PySem.W.findIn K (.ref Cto) "__init__" = some (some (.ref g28)))
    (L28 : K.lookup g28 = some ⟨pc28, pd28, .func (PySem.W.fnOf "__init__" "ToRoom.__init__" (defArgs sToRoom_init) (defBody sToRoom_init) (defScope sToRoom_init) .none lV28 ec28 qm28 bn28 dd28 dt28), tl28⟩)
    (D28 : PySem.W.codeIn K dd28 "ToRoom.__init__" = true)
    (N28 : PySem.W.keepIn K (.ref g28) = true)
    (T28 : PySem.W.typeIn K (.ref g28) = some (.type "function"))
    (M29 : PySem.W.findIn K (.ref Cto) "__eq__" = some (some (.ref g29)))
    (L29 : K.lookup g29 = some ⟨pc29, pd29, .func (PySem.W.fnOf "__eq__" "ToRoom.__eq__" (defArgs sToRoom_eq) (defBody sToRoom_eq) (defScope sToRoom_eq) .none lV29 ec29 qm29 bn29 dd29 dt29), tl29⟩)
    (D29 : PySem.W.codeIn K dd29 "ToRoom.__eq__" = true)
    (N29 : PySem.W.keepIn K (.ref g29) = true)
    (T29 : PySem.W.typeIn K (.ref g29) = some (.type "function"))
    (M30 : PySem.W.findIn K (.ref Cput) "__init__" = some (some (.ref g30)))
    (L30 : K.lookup g30 = some ⟨pc30, pd30, .func (PySem.W.fnOf "__init__" "Put.__init__" (defArgs sPut_init) (defBody sPut_init) (defScope sPut_init) .none lV30 ec30 qm30 bn30 dd30 dt30), tl30⟩)
    (D30 : PySem.W.codeIn K dd30 "Put.__init__" = true)
    (N30 : PySem.W.keepIn K (.ref g30) = true)
    (T30 : PySem.W.typeIn K (.ref g30) = some (.type "function"))
    (M31 : PySem.W.findIn K (.ref Cput) "__eq__" = some (some (.ref g31)))
    (L31 : K.lookup g31 = some ⟨pc31, pd31, .func (PySem.W.fnOf "__eq__" "Put.__eq__" (defArgs sPut_eq) (defBody sPut_eq) (defScope sPut_eq) .none lV31 ec31 qm31 bn31 dd31 dt31), tl31⟩)
    (D31 : PySem.W.codeIn K dd31 "Put.__eq__" = true)
    (N31 : PySem.W.keepIn K (.ref g31) = true)
    (T31 : PySem.W.typeIn K (.ref g31) = some (.type "function"))
    (M32 : PySem.W.findIn K (.ref Czero) "__init__" = some (some (.ref g32)))
    (L32 : K.lookup g32 = some ⟨pc32, pd32, .func (PySem.W.fnOf "__init__" "Zero.__init__" (defArgs sZero_init) (defBody sZero_init) (defScope sZero_init) .none lV32 ec32 qm32 bn32 dd32 dt32), tl32⟩)
    (D32 : PySem.W.codeIn K dd32 "Zero.__init__" = true)
    (N32 : PySem.W.keepIn K (.ref g32) = true)
    (T32 : PySem.W.typeIn K (.ref g32) = some (.type "function"))
    (M33 : PySem.W.findIn K (.ref Czero) "__eq__" = some (some (.ref g33)))
    (L33 : K.lookup g33 = some ⟨pc33, pd33, .func (PySem.W.fnOf "__eq__" "Zero.__eq__" (defArgs sZero_eq) (defBody sZero_eq) (defScope sZero_eq) .none lV33 ec33 qm33 bn33 dd33 dt33), tl33⟩)
    (D33 : PySem.W.codeIn K dd33 "Zero.__eq__" = true)
    (N33 : PySem.W.keepIn K (.ref g33) = true)
    (T33 : PySem.W.typeIn K (.ref g33) = some (.type "function"))
    (M34 : PySem.W.findIn K (.ref Crun) "__init__" = some (some (.ref g34)))
    (L34 : K.lookup g34 = some ⟨pc34, pd34, .func (PySem.W.fnOf "__init__" "Run.__init__" (defArgs sRun_init) (defBody sRun_init) (defScope sRun_init) .none lV34 ec34 qm34 bn34 dd34 dt34), tl34⟩)
    (D34 : PySem.W.codeIn K dd34 "Run.__init__" = true)
    (N34 : PySem.W.keepIn K (.ref g34) = true)
    (T34 : PySem.W.typeIn K (.ref g34) = some (.type "function"))
    (M35 : PySem.W.findIn K (.ref Crun) "__eq__" = some (some (.ref g35)))
    (L35 : K.lookup g35 = some ⟨pc35, pd35, .func (PySem.W.fnOf "__eq__" "Run.__eq__" (defArgs sRun_eq) (defBody sRun_eq) (defScope sRun_eq) .none lV35 ec35 qm35 bn35 dd35 dt35), tl35⟩)
    (D35 : PySem.W.codeIn K dd35 "Run.__eq__" = true)
    (N35 : PySem.W.keepIn K (.ref g35) = true)
    (T35 : PySem.W.typeIn K (.ref g35) = some (.type "function"))
    (M36 : PySem.W.findIn K (.ref Chalt) "__init__" = some (some (.ref g36)))
    (L36 : K.lookup g36 = some ⟨pc36, pd36, .func (PySem.W.fnOf "__init__" "Halt.__init__" (defArgs sHalt_init) (defBody sHalt_init) (defScope sHalt_init) .none lV36 ec36 qm36 bn36 dd36 dt36), tl36⟩)
    (D36 : PySem.W.codeIn K dd36 "Halt.__init__" = true)
    (N36 : PySem.W.keepIn K (.ref g36) = true)
    (T36 : PySem.W.typeIn K (.ref g36) = some (.type "function"))
    (M37 : PySem.W.findIn K (.ref Chalt) "__eq__" = some (some (.ref g37)))
    (L37 : K.lookup g37 = some ⟨pc37, pd37, .func (PySem.W.fnOf "__eq__" "Halt.__eq__" (defArgs sHalt_eq) (defBody sHalt_eq) (defScope sHalt_eq) .none lV37 ec37 qm37 bn37 dd37 dt37), tl37⟩)
    (D37 : PySem.W.codeIn K dd37 "Halt.__eq__" = true)
    (N37 : PySem.W.keepIn K (.ref g37) = true)
    (T37 : PySem.W.typeIn K (.ref g37) = some (.type "function"))
    (P0a : PySem.W.findIn K (.ref CC) "arity" = some (some (.ref p0)))
    (P0b : PySem.W.specialIn K (.ref p0) "__get__" = some (some (.builtin "property.__get__")))
    (P0c : PySem.W.takesIn K (.ref p0) = some true)
    (P0d : PySem.W.recIn K p0 "property" = some (.ref g38 :: rest0))
    (L38 : K.lookup g38 = some ⟨pc38, pd38, .func (PySem.W.fnOf "arity" "Clause.arity" (defArgs sClause_arity) (defBody sClause_arity) (defScope sClause_arity) .none lV38 ec38 qm38 bn38 dd38 dt38), tl38⟩)
    (D38 : PySem.W.codeIn K dd38 "Clause.arity" = true)
    (N38 : PySem.W.keepIn K (.ref g38) = true)
    (M39 : PySem.W.findIn K (.ref CC) "__init__" = some (some (.ref g39)))
    (L39 : K.lookup g39 = some ⟨pc39, pd39, .func (PySem.W.fnOf "__init__" "Clause.__init__" (defArgs sClause_init) (defBody sClause_init) (defScope sClause_init) (.ref pT) lV39 ec39 qm39 bn39 dd39 dt39), tl39⟩)
    (D39 : PySem.W.codeIn K dd39 "Clause.__init__" = true)
    (N39 : PySem.W.keepIn K (.ref g39) = true)
    (T39 : PySem.W.typeIn K (.ref g39) = some (.type "function"))
    (H1 : K.lookup pT = some ⟨toc, tod, .seq #[.ref e1, .ref e2] tn, tsl⟩)
    (A1 : PySem.W.nsIn K mainGlobals "NO_SEATS" = some (some (.ref aT)))
    (A2 : K.lookup aT = some ⟨.type "tuple", aod, .seq #[.str "first" r0, .str "second" r1, .str "nobody" r2] anN, asl⟩)
    (H2 : K.lookup e1 = some ⟨.type "tuple", eod, .seq #[] en, esl⟩)
    (H3 : K.lookup e2 = some ⟨.type "tuple", eoe, .seq #[] em, esm⟩)
    (u1Croom : PySem.W.plainGet K Croom Str.empty = true)
    (u2Croom : PySem.W.hasDictIn K Croom = true)
    (u3Croom : PySem.W.plainOver K Croom = true)
    (u4Croom : PySem.W.findIn K (.ref Croom) "__setattr__" = some (some (.builtin "object.__setattr__")))
    (u5Croom_room : PySem.W.findIn K (.ref Croom) "room" = some none)
    (u6Croom : PySem.W.findIn K (.ref Croom) "__class__" = some (some (.builtin "object.__class__")))
    (u7Croom : PySem.W.mroIn K Croom (.type "object") = some true)
    (u8Croom : PySem.W.makesIn K Croom = true)
    (u9Croom : PySem.W.keepIn K (.ref Croom) = true)
    (uACroom : PySem.W.findIn K (.ref Croom) "__ne__" = some (some (.builtin "object.__ne__")))
    (u1Cnotroom : PySem.W.plainGet K Cnotroom Str.empty = true)
    (u2Cnotroom : PySem.W.hasDictIn K Cnotroom = true)
    (u3Cnotroom : PySem.W.plainOver K Cnotroom = true)
    (u4Cnotroom : PySem.W.findIn K (.ref Cnotroom) "__setattr__" = some (some (.builtin "object.__setattr__")))
    (u5Cnotroom_room : PySem.W.findIn K (.ref Cnotroom) "room" = some none)
    (u6Cnotroom : PySem.W.findIn K (.ref Cnotroom) "__class__" = some (some (.builtin "object.__class__")))
    (u7Cnotroom : PySem.W.mroIn K Cnotroom (.type "object") = some true)
    (u8Cnotroom : PySem.W.makesIn K Cnotroom = true)
    (u9Cnotroom : PySem.W.keepIn K (.ref Cnotroom) = true)
    (uACnotroom : PySem.W.findIn K (.ref Cnotroom) "__ne__" = some (some (.builtin "object.__ne__")))
    (u1Cis_ : PySem.W.plainGet K Cis_ Str.empty = true)
    (u2Cis_ : PySem.W.hasDictIn K Cis_ = true)
    (u3Cis_ : PySem.W.plainOver K Cis_ = true)
    (u4Cis_ : PySem.W.findIn K (.ref Cis_) "__setattr__" = some (some (.builtin "object.__setattr__")))
    (u5Cis__seat : PySem.W.findIn K (.ref Cis_) "seat" = some none)
    (u5Cis__what : PySem.W.findIn K (.ref Cis_) "what" = some none)
    (u6Cis_ : PySem.W.findIn K (.ref Cis_) "__class__" = some (some (.builtin "object.__class__")))
    (u7Cis_ : PySem.W.mroIn K Cis_ (.type "object") = some true)
    (u8Cis_ : PySem.W.makesIn K Cis_ = true)
    (u9Cis_ : PySem.W.keepIn K (.ref Cis_) = true)
    (uACis_ : PySem.W.findIn K (.ref Cis_) "__ne__" = some (some (.builtin "object.__ne__")))
    (u1Cisnot : PySem.W.plainGet K Cisnot Str.empty = true)
    (u2Cisnot : PySem.W.hasDictIn K Cisnot = true)
    (u3Cisnot : PySem.W.plainOver K Cisnot = true)
    (u4Cisnot : PySem.W.findIn K (.ref Cisnot) "__setattr__" = some (some (.builtin "object.__setattr__")))
    (u5Cisnot_seat : PySem.W.findIn K (.ref Cisnot) "seat" = some none)
    (u5Cisnot_what : PySem.W.findIn K (.ref Cisnot) "what" = some none)
    (u6Cisnot : PySem.W.findIn K (.ref Cisnot) "__class__" = some (some (.builtin "object.__class__")))
    (u7Cisnot : PySem.W.mroIn K Cisnot (.type "object") = some true)
    (u8Cisnot : PySem.W.makesIn K Cisnot = true)
    (u9Cisnot : PySem.W.keepIn K (.ref Cisnot) = true)
    (uACisnot : PySem.W.findIn K (.ref Cisnot) "__ne__" = some (some (.builtin "object.__ne__")))
    (u1Csame : PySem.W.plainGet K Csame Str.empty = true)
    (u2Csame : PySem.W.hasDictIn K Csame = true)
    (u3Csame : PySem.W.plainOver K Csame = true)
    (u4Csame : PySem.W.findIn K (.ref Csame) "__setattr__" = some (some (.builtin "object.__setattr__")))
    (u6Csame : PySem.W.findIn K (.ref Csame) "__class__" = some (some (.builtin "object.__class__")))
    (u7Csame : PySem.W.mroIn K Csame (.type "object") = some true)
    (u8Csame : PySem.W.makesIn K Csame = true)
    (u9Csame : PySem.W.keepIn K (.ref Csame) = true)
    (uACsame : PySem.W.findIn K (.ref Csame) "__ne__" = some (some (.builtin "object.__ne__")))
    (uBCsame : PySem.W.findIn K (.ref Csame) "__init__" = some (some (.builtin "object.__init__")))
    (u1Capart : PySem.W.plainGet K Capart Str.empty = true)
    (u2Capart : PySem.W.hasDictIn K Capart = true)
    (u3Capart : PySem.W.plainOver K Capart = true)
    (u4Capart : PySem.W.findIn K (.ref Capart) "__setattr__" = some (some (.builtin "object.__setattr__")))
    (u6Capart : PySem.W.findIn K (.ref Capart) "__class__" = some (some (.builtin "object.__class__")))
    (u7Capart : PySem.W.mroIn K Capart (.type "object") = some true)
    (u8Capart : PySem.W.makesIn K Capart = true)
    (u9Capart : PySem.W.keepIn K (.ref Capart) = true)
    (uACapart : PySem.W.findIn K (.ref Capart) "__ne__" = some (some (.builtin "object.__ne__")))
    (uBCapart : PySem.W.findIn K (.ref Capart) "__init__" = some (some (.builtin "object.__init__")))
    (u1Cleast : PySem.W.plainGet K Cleast Str.empty = true)
    (u2Cleast : PySem.W.hasDictIn K Cleast = true)
    (u3Cleast : PySem.W.plainOver K Cleast = true)
    (u4Cleast : PySem.W.findIn K (.ref Cleast) "__setattr__" = some (some (.builtin "object.__setattr__")))
    (u5Cleast_clock : PySem.W.findIn K (.ref Cleast) "clock" = some none)
    (u5Cleast_number : PySem.W.findIn K (.ref Cleast) "number" = some none)
    (u6Cleast : PySem.W.findIn K (.ref Cleast) "__class__" = some (some (.builtin "object.__class__")))
    (u7Cleast : PySem.W.mroIn K Cleast (.type "object") = some true)
    (u8Cleast : PySem.W.makesIn K Cleast = true)
    (u9Cleast : PySem.W.keepIn K (.ref Cleast) = true)
    (uACleast : PySem.W.findIn K (.ref Cleast) "__ne__" = some (some (.builtin "object.__ne__")))
    (u1Cbelow : PySem.W.plainGet K Cbelow Str.empty = true)
    (u2Cbelow : PySem.W.hasDictIn K Cbelow = true)
    (u3Cbelow : PySem.W.plainOver K Cbelow = true)
    (u4Cbelow : PySem.W.findIn K (.ref Cbelow) "__setattr__" = some (some (.builtin "object.__setattr__")))
    (u5Cbelow_clock : PySem.W.findIn K (.ref Cbelow) "clock" = some none)
    (u5Cbelow_number : PySem.W.findIn K (.ref Cbelow) "number" = some none)
    (u6Cbelow : PySem.W.findIn K (.ref Cbelow) "__class__" = some (some (.builtin "object.__class__")))
    (u7Cbelow : PySem.W.mroIn K Cbelow (.type "object") = some true)
    (u8Cbelow : PySem.W.makesIn K Cbelow = true)
    (u9Cbelow : PySem.W.keepIn K (.ref Cbelow) = true)
    (uACbelow : PySem.W.findIn K (.ref Cbelow) "__ne__" = some (some (.builtin "object.__ne__")))
    (u1Cto : PySem.W.plainGet K Cto Str.empty = true)
    (u2Cto : PySem.W.hasDictIn K Cto = true)
    (u3Cto : PySem.W.plainOver K Cto = true)
    (u4Cto : PySem.W.findIn K (.ref Cto) "__setattr__" = some (some (.builtin "object.__setattr__")))
    (u5Cto_room : PySem.W.findIn K (.ref Cto) "room" = some none)
    (u6Cto : PySem.W.findIn K (.ref Cto) "__class__" = some (some (.builtin "object.__class__")))
    (u7Cto : PySem.W.mroIn K Cto (.type "object") = some true)
    (u8Cto : PySem.W.makesIn K Cto = true)
    (u9Cto : PySem.W.keepIn K (.ref Cto) = true)
    (uACto : PySem.W.findIn K (.ref Cto) "__ne__" = some (some (.builtin "object.__ne__")))
    (u1Cput : PySem.W.plainGet K Cput Str.empty = true)
    (u2Cput : PySem.W.hasDictIn K Cput = true)
    (u3Cput : PySem.W.plainOver K Cput = true)
    (u4Cput : PySem.W.findIn K (.ref Cput) "__setattr__" = some (some (.builtin "object.__setattr__")))
    (u5Cput_seat : PySem.W.findIn K (.ref Cput) "seat" = some none)
    (u5Cput_what : PySem.W.findIn K (.ref Cput) "what" = some none)
    (u6Cput : PySem.W.findIn K (.ref Cput) "__class__" = some (some (.builtin "object.__class__")))
    (u7Cput : PySem.W.mroIn K Cput (.type "object") = some true)
    (u8Cput : PySem.W.makesIn K Cput = true)
    (u9Cput : PySem.W.keepIn K (.ref Cput) = true)
    (uACput : PySem.W.findIn K (.ref Cput) "__ne__" = some (some (.builtin "object.__ne__")))
    (u1Czero : PySem.W.plainGet K Czero Str.empty = true)
    (u2Czero : PySem.W.hasDictIn K Czero = true)
    (u3Czero : PySem.W.plainOver K Czero = true)
    (u4Czero : PySem.W.findIn K (.ref Czero) "__setattr__" = some (some (.builtin "object.__setattr__")))
    (u5Czero_clock : PySem.W.findIn K (.ref Czero) "clock" = some none)
    (u6Czero : PySem.W.findIn K (.ref Czero) "__class__" = some (some (.builtin "object.__class__")))
    (u7Czero : PySem.W.mroIn K Czero (.type "object") = some true)
    (u8Czero : PySem.W.makesIn K Czero = true)
    (u9Czero : PySem.W.keepIn K (.ref Czero) = true)
    (uACzero : PySem.W.findIn K (.ref Czero) "__ne__" = some (some (.builtin "object.__ne__")))
    (u1Crun : PySem.W.plainGet K Crun Str.empty = true)
    (u2Crun : PySem.W.hasDictIn K Crun = true)
    (u3Crun : PySem.W.plainOver K Crun = true)
    (u4Crun : PySem.W.findIn K (.ref Crun) "__setattr__" = some (some (.builtin "object.__setattr__")))
    (u5Crun_clock : PySem.W.findIn K (.ref Crun) "clock" = some none)
    (u6Crun : PySem.W.findIn K (.ref Crun) "__class__" = some (some (.builtin "object.__class__")))
    (u7Crun : PySem.W.mroIn K Crun (.type "object") = some true)
    (u8Crun : PySem.W.makesIn K Crun = true)
    (u9Crun : PySem.W.keepIn K (.ref Crun) = true)
    (uACrun : PySem.W.findIn K (.ref Crun) "__ne__" = some (some (.builtin "object.__ne__")))
    (u1Chalt : PySem.W.plainGet K Chalt Str.empty = true)
    (u2Chalt : PySem.W.hasDictIn K Chalt = true)
    (u3Chalt : PySem.W.plainOver K Chalt = true)
    (u4Chalt : PySem.W.findIn K (.ref Chalt) "__setattr__" = some (some (.builtin "object.__setattr__")))
    (u5Chalt_clock : PySem.W.findIn K (.ref Chalt) "clock" = some none)
    (u6Chalt : PySem.W.findIn K (.ref Chalt) "__class__" = some (some (.builtin "object.__class__")))
    (u7Chalt : PySem.W.mroIn K Chalt (.type "object") = some true)
    (u8Chalt : PySem.W.makesIn K Chalt = true)
    (u9Chalt : PySem.W.keepIn K (.ref Chalt) = true)
    (uAChalt : PySem.W.findIn K (.ref Chalt) "__ne__" = some (some (.builtin "object.__ne__")))
    (u1CC : PySem.W.plainGet K CC Str.empty = true)
    (u2CC : PySem.W.hasDictIn K CC = true)
    (u3CC : PySem.W.plainOver K CC = true)
    (u4CC : PySem.W.findIn K (.ref CC) "__setattr__" = some (some (.builtin "object.__setattr__")))
    (u5CC_kind : PySem.W.findIn K (.ref CC) "kind" = some none)
    (u5CC_conditions : PySem.W.findIn K (.ref CC) "conditions" = some none)
    (u5CC_changes : PySem.W.findIn K (.ref CC) "changes" = some none)
    (u6CC : PySem.W.findIn K (.ref CC) "__class__" = some (some (.builtin "object.__class__")))
    (u7CC : PySem.W.mroIn K CC (.type "object") = some true)
    (u8CC : PySem.W.makesIn K CC = true)
    (u9CC : PySem.W.keepIn K (.ref CC) = true)
    (uACC : PySem.W.findIn K (.ref CC) "__ne__" = some (some (.builtin "object.__ne__")))
    (uCC1 : PySem.W.notFirst K CC (.ref CC) = true)
    (uCC2 : PySem.W.notFirst K CC (.type "str") = true)
    (uCC3 : PySem.W.kitOne K (.type "str") (.ref CC) = some false)
    (w1 : (pkAll.all fun j => pkAll.all fun k => decide (PySem.W.kitOne K (.ref ((mkCs Croom Cnotroom Cis_ Cisnot Csame Capart Cleast Cbelow Cto Cput Czero Crun Chalt) j)) (.ref ((mkCs Croom Cnotroom Cis_ Cisnot Csame Capart Cleast Cbelow Cto Cput Czero Crun Chalt) k)) = some (decide (j = k)))) = true)
    (w2 : (pkAll.all fun j => pkAll.all fun k => PySem.W.notFirst K ((mkCs Croom Cnotroom Cis_ Cisnot Csame Capart Cleast Cbelow Cto Cput Czero Crun Chalt) j) (.ref ((mkCs Croom Cnotroom Cis_ Cisnot Csame Capart Cleast Cbelow Cto Cput Czero Crun Chalt) k))) = true)
    (w3 : (pkAll.all fun k => PySem.W.notFirst K ((mkCs Croom Cnotroom Cis_ Cisnot Csame Capart Cleast Cbelow Cto Cput Czero Crun Chalt) k) (.type "tuple")) = true)
    (w4 : (pkAll.all fun k => decide (PySem.W.kitOne K (.type "tuple") (.ref ((mkCs Croom Cnotroom Cis_ Cisnot Csame Capart Cleast Cbelow Cto Cput Czero Crun Chalt) k)) = some false)) = true)
    (w5 : (pkAll.all fun k => decide (PySem.W.kitOne K (.ref ((mkCs Croom Cnotroom Cis_ Cisnot Csame Capart Cleast Cbelow Cto Cput Czero Crun Chalt) k)) (.ref Cc) = some k.cond)) = true)
    (w6 : (pkAll.all fun k => decide (PySem.W.kitOne K (.ref ((mkCs Croom Cnotroom Cis_ Cisnot Csame Capart Cleast Cbelow Cto Cput Czero Crun Chalt) k)) (.ref Ch) = some (!k.cond))) = true)
    (w7 : ((["NoneType", "bool", "int", "str", "list", "tuple", "dict"] : List String).all fun n => decide (PySem.W.kitOne K (.type n) (.ref Cc) = some false)) = true)
    (w8 : ((["NoneType", "bool", "int", "str", "list", "tuple", "dict"] : List String).all fun n => decide (PySem.W.kitOne K (.type n) (.ref Ch) = some false)) = true)
    (w9 : (pkAll.all fun k => decide (PySem.W.kitAny K (.ref ((mkCs Croom Cnotroom Cis_ Cisnot Csame Capart Cleast Cbelow Cto Cput Czero Crun Chalt) k)) [.type "list", .type "tuple"] = some false)) = true)
    (w10 : (pkAll.all fun k => decide (PySem.W.kitAny K (.ref ((mkCs Croom Cnotroom Cis_ Cisnot Csame Capart Cleast Cbelow Cto Cput Czero Crun Chalt) k)) [.type "str", .type "int"] = some false)) = true)
    (q1 : PySem.W.specialIn K (.builtin "object.__class__") "__get__" = some (some (.builtin "getset_descriptor.__get__")))
    (q2 : PySem.W.takesIn K (.builtin "object.__class__") = some true)
    (nBc : PySem.W.findIn K (.ref Bc) "what" = some none)
    (xBc : PySem.W.exmOne K (.ref Bc) (.ref Bc) = some true)
    (yBc : PySem.W.exmOne K (.ref Bc) (.ref Bh) = some false)
    (wSBc : PySem.W.kitOne K (.ref Bc) (.ref CS) = some true)
    (wOBc : PySem.W.kitOne K (.ref Bc) (.ref Bh) = some false)
    (nBh : PySem.W.findIn K (.ref Bh) "what" = some none)
    (xBh : PySem.W.exmOne K (.ref Bh) (.ref Bh) = some true)
    (yBh : PySem.W.exmOne K (.ref Bh) (.ref Bc) = some false)
    (wSBh : PySem.W.kitOne K (.ref Bh) (.ref CS) = some true)
    (wOBh : PySem.W.kitOne K (.ref Bh) (.ref Bc) = some false)
    (nCB : PySem.W.findIn K (.ref CB) "what" = some none)
    (xCB : PySem.W.exmOne K (.ref CB) (.ref CB) = some true)
    (yCB : PySem.W.exmOne K (.ref CB) (.ref Bc) = some false)
    (wSCB : PySem.W.kitOne K (.ref CB) (.ref CS) = some true)
    (wOCB : PySem.W.kitOne K (.ref CB) (.ref Bc) = some false)
    (nCBi : PySem.W.findIn K (.ref CB) "index" = some none)
    (y2 : PySem.W.nsIn K mainGlobals "LONGEST_LABEL" = some (some (.int 6 t2)))
    (y3 : PySem.W.nsIn K mainGlobals "GREATEST_NUMBER" = some (some (.int 40 t3)))
    (y4 : PySem.W.nsIn K mainGlobals "MOST_CONDITIONS" = some (some (.int 6 t4)))
    (y5 : PySem.W.nsIn K mainGlobals "MOST_CHANGES" = some (some (.int 8 t5)))
    (o1Bc : ∃ nm q N bs bm sn sub ab col dd k0 k1 k2 k3 k5, K.lookup Bc = some (excClassObj nm q Bc N bs bm true sn sub ab col dd k0 k1 k2 k3 k5 "ValueError.__new__") ∧ PySem.HandSPX.refsVE bm = true)
    (o2Bc : PySem.W.findIn K (.ref Bc) "__setattr__" = some (some (.builtin "object.__setattr__")))
    (o3Bc : PySem.W.subIn K (.ref Bc) (.type "BaseException") = some true)
    (o4Bc : PySem.W.typeIn K (.ref Bc) = some (.type "type"))
    (o5Bc : PySem.W.keepIn K (.ref Bc) = true)
    (o6Bc : PySem.W.findIn K (.ref Bc) "__getattribute__" = some (some (.builtin "BaseException.__getattribute__")))
    (o7Bc : PySem.W.findIn K (.ref Bc) "__getattr__" = some none)
    (o8Bc : PySem.W.hasDictIn K Bc = true)
    (o9Bc : PySem.W.findIn K (.ref Bc) "__class__" = some (some (.builtin "object.__class__")))
    (oABc : PySem.W.mroIn K Bc (.type "object") = some true)
    (o1Bh : ∃ nm q N bs bm sn sub ab col dd k0 k1 k2 k3 k5, K.lookup Bh = some (excClassObj nm q Bh N bs bm true sn sub ab col dd k0 k1 k2 k3 k5 "ValueError.__new__") ∧ PySem.HandSPX.refsVE bm = true)
    (o2Bh : PySem.W.findIn K (.ref Bh) "__setattr__" = some (some (.builtin "object.__setattr__")))
    (o3Bh : PySem.W.subIn K (.ref Bh) (.type "BaseException") = some true)
    (o4Bh : PySem.W.typeIn K (.ref Bh) = some (.type "type"))
    (o5Bh : PySem.W.keepIn K (.ref Bh) = true)
    (o6Bh : PySem.W.findIn K (.ref Bh) "__getattribute__" = some (some (.builtin "BaseException.__getattribute__")))
    (o7Bh : PySem.W.findIn K (.ref Bh) "__getattr__" = some none)
    (o8Bh : PySem.W.hasDictIn K Bh = true)
    (o9Bh : PySem.W.findIn K (.ref Bh) "__class__" = some (some (.builtin "object.__class__")))
    (oABh : PySem.W.mroIn K Bh (.type "object") = some true)
    (o1CB : ∃ nm q N bs bm sn sub ab col dd k0 k1 k2 k3 k5, K.lookup CB = some (excClassObj nm q CB N bs bm true sn sub ab col dd k0 k1 k2 k3 k5 "ValueError.__new__") ∧ PySem.HandSPX.refsVE bm = true)
    (o2CB : PySem.W.findIn K (.ref CB) "__setattr__" = some (some (.builtin "object.__setattr__")))
    (o3CB : PySem.W.subIn K (.ref CB) (.type "BaseException") = some true)
    (o4CB : PySem.W.typeIn K (.ref CB) = some (.type "type"))
    (o5CB : PySem.W.keepIn K (.ref CB) = true)
    (o6CB : PySem.W.findIn K (.ref CB) "__getattribute__" = some (some (.builtin "BaseException.__getattribute__")))
    (o7CB : PySem.W.findIn K (.ref CB) "__getattr__" = some none)
    (o8CB : PySem.W.hasDictIn K CB = true)
    (o9CB : PySem.W.findIn K (.ref CB) "__class__" = some (some (.builtin "object.__class__")))
    (oACB : PySem.W.mroIn K CB (.type "object") = some true)
    (z_int : PySem.W.nsIn K mainGlobals "int" = some none)
    (z_abs : PySem.W.nsIn K mainGlobals "abs" = some none)
    (z_len : PySem.W.nsIn K mainGlobals "len" = some none)
    (z_enumerate : PySem.W.nsIn K mainGlobals "enumerate" = some none)
    (z_range : PySem.W.nsIn K mainGlobals "range" = some none)
    (z_isinstance : PySem.W.nsIn K mainGlobals "isinstance" = some none)
    (z_str : PySem.W.nsIn K mainGlobals "str" = some none)
    (z_bool : PySem.W.nsIn K mainGlobals "bool" = some none)
    (z_list : PySem.W.nsIn K mainGlobals "list" = some none)
    (z_tuple : PySem.W.nsIn K mainGlobals "tuple" = some none) :
    ∀ (base : Heap) (s : Shared) (H : Hp) (a : Addr) (ns : List Int), K.In base → base.Ns mainGlobals mg → Env0 l.prog w K mg base callerA [] s H → SqL K H a (ns.map V.int) → ns.length ≤ 63 →
      codeAny (model l.prog w) callerA (.call (.ref fa) ⟨[.ref a], []⟩) (CR CX0 [] l.prog w H s QT EF) s := by
  have e := hfa.symm.trans (PySem.W.mg_of X G a35)
  cases e
  intro base s H a ns _ _ e0 hS hn
  have T : Bl mg := ⟨(PySem.W.mg_none_of X G z_int), (PySem.W.mg_none_of X G z_abs), (PySem.W.mg_none_of X G z_len), (PySem.W.mg_none_of X G z_enumerate), (PySem.W.mg_none_of X G z_range)⟩
  have B : Bm mg := ⟨(PySem.W.mg_none_of X G z_isinstance), (PySem.W.mg_none_of X G z_str), (PySem.W.mg_none_of X G z_bool), (PySem.W.mg_none_of X G z_list), (PySem.W.mg_none_of X G z_tuple), ⟨_, PySem.W.mg_of X G y2⟩⟩
  have Nn : Ns8 K mg := ⟨⟨aT, PySem.W.mg_of X G A1, fun H => .inr ⟨_, _, _, A2, rfl, rfl, (by show 3 ≤ sizeLine; decide), (show Vals [V.str "first", V.str "second", V.str "nobody"] _ from .cons ⟨_, rfl⟩ (.cons ⟨_, rfl⟩ (.cons ⟨_, rfl⟩ .nil)))⟩⟩, ⟨_, PySem.W.mg_of X G y3⟩, ⟨_, PySem.W.mg_of X G y4⟩, ⟨_, PySem.W.mg_of X G y5⟩⟩
  have QCroom : QC K Croom ["room"] := ⟨⟨u1Croom, u2Croom, u3Croom, u4Croom⟩, (fun f hf => by rw [List.mem_singleton.mp hf]; exact u5Croom_room), u6Croom, q1, q2, u7Croom⟩
  have QCnotroom : QC K Cnotroom ["room"] := ⟨⟨u1Cnotroom, u2Cnotroom, u3Cnotroom, u4Cnotroom⟩, (fun f hf => by rw [List.mem_singleton.mp hf]; exact u5Cnotroom_room), u6Cnotroom, q1, q2, u7Cnotroom⟩
  have QCis_ : QC K Cis_ ["seat", "what"] := ⟨⟨u1Cis_, u2Cis_, u3Cis_, u4Cis_⟩, (fun f hf => by
    rcases List.mem_cons.mp hf with e | hf
    · rw [e]; exact u5Cis__seat
    · rw [List.mem_singleton.mp hf]; exact u5Cis__what), u6Cis_, q1, q2, u7Cis_⟩
  have QCisnot : QC K Cisnot ["seat", "what"] := ⟨⟨u1Cisnot, u2Cisnot, u3Cisnot, u4Cisnot⟩, (fun f hf => by
    rcases List.mem_cons.mp hf with e | hf
    · rw [e]; exact u5Cisnot_seat
    · rw [List.mem_singleton.mp hf]; exact u5Cisnot_what), u6Cisnot, q1, q2, u7Cisnot⟩
  have QCsame : QC K Csame [] := ⟨⟨u1Csame, u2Csame, u3Csame, u4Csame⟩, (fun f hf => nomatch hf), u6Csame, q1, q2, u7Csame⟩
  have QCapart : QC K Capart [] := ⟨⟨u1Capart, u2Capart, u3Capart, u4Capart⟩, (fun f hf => nomatch hf), u6Capart, q1, q2, u7Capart⟩
  have QCleast : QC K Cleast ["clock", "number"] := ⟨⟨u1Cleast, u2Cleast, u3Cleast, u4Cleast⟩, (fun f hf => by
    rcases List.mem_cons.mp hf with e | hf
    · rw [e]; exact u5Cleast_clock
    · rw [List.mem_singleton.mp hf]; exact u5Cleast_number), u6Cleast, q1, q2, u7Cleast⟩
  have QCbelow : QC K Cbelow ["clock", "number"] := ⟨⟨u1Cbelow, u2Cbelow, u3Cbelow, u4Cbelow⟩, (fun f hf => by
    rcases List.mem_cons.mp hf with e | hf
    · rw [e]; exact u5Cbelow_clock
    · rw [List.mem_singleton.mp hf]; exact u5Cbelow_number), u6Cbelow, q1, q2, u7Cbelow⟩
  have QCto : QC K Cto ["room"] := ⟨⟨u1Cto, u2Cto, u3Cto, u4Cto⟩, (fun f hf => by rw [List.mem_singleton.mp hf]; exact u5Cto_room), u6Cto, q1, q2, u7Cto⟩
  have QCput : QC K Cput ["seat", "what"] := ⟨⟨u1Cput, u2Cput, u3Cput, u4Cput⟩, (fun f hf => by
    rcases List.mem_cons.mp hf with e | hf
    · rw [e]; exact u5Cput_seat
    · rw [List.mem_singleton.mp hf]; exact u5Cput_what), u6Cput, q1, q2, u7Cput⟩
  have QCzero : QC K Czero ["clock"] := ⟨⟨u1Czero, u2Czero, u3Czero, u4Czero⟩, (fun f hf => by rw [List.mem_singleton.mp hf]; exact u5Czero_clock), u6Czero, q1, q2, u7Czero⟩
  have QCrun : QC K Crun ["clock"] := ⟨⟨u1Crun, u2Crun, u3Crun, u4Crun⟩, (fun f hf => by rw [List.mem_singleton.mp hf]; exact u5Crun_clock), u6Crun, q1, q2, u7Crun⟩
  have QChalt : QC K Chalt ["clock"] := ⟨⟨u1Chalt, u2Chalt, u3Chalt, u4Chalt⟩, (fun f hf => by rw [List.mem_singleton.mp hf]; exact u5Chalt_clock), u6Chalt, q1, q2, u7Chalt⟩
  have QCC : QC K CC ["kind", "conditions", "changes"] := ⟨⟨u1CC, u2CC, u3CC, u4CC⟩, (fun f hf => by
    rcases List.mem_cons.mp hf with e | hf
    · rw [e]; exact u5CC_kind
    rcases List.mem_cons.mp hf with e | hf
    · rw [e]; exact u5CC_conditions
    · rw [List.mem_singleton.mp hf]; exact u5CC_changes), u6CC, q1, q2, u7CC⟩
  have PC : PkC K (mkCs Croom Cnotroom Cis_ Cisnot Csame Capart Cleast Cbelow Cto Cput Czero Crun Chalt) := ⟨fun k => match k with | .room => QCroom | .notroom => QCnotroom | .is_ => QCis_ | .isnot => QCisnot | .same => QCsame | .apart => QCapart | .least => QCleast | .below => QCbelow | .to => QCto | .put => QCput | .zero => QCzero | .run => QCrun | .halt => QChalt, fun j k => of_decide_eq_true (all13 (all13 w1 j) k), fun j k => all13 (all13 w2 j) k, fun k => all13 w3 k, fun k => of_decide_eq_true (all13 w4 k)⟩
  have PB : PkB K mg (mkCs Croom Cnotroom Cis_ Cisnot Csame Capart Cleast Cbelow Cto Cput Czero Crun Chalt) Cc Ch := ⟨fun k => of_decide_eq_true (all13 w5 k), fun k => of_decide_eq_true (all13 w6 k), fun n h => of_decide_eq_true (List.all_eq_true.mp w7 n h), fun n h => of_decide_eq_true (List.all_eq_true.mp w8 n h), fun k => of_decide_eq_true (all13 w9 k), (PySem.W.mg_of X G mCc), (PySem.W.mg_of X G mCh)⟩
  have NM : NeM K (mkCs Croom Cnotroom Cis_ Cisnot Csame Capart Cleast Cbelow Cto Cput Czero Crun Chalt) := fun k => match k with | .room => uACroom | .notroom => uACnotroom | .is_ => uACis_ | .isnot => uACisnot | .same => uACsame | .apart => uACapart | .least => uACleast | .below => uACbelow | .to => uACto | .put => uACput | .zero => uACzero | .run => uACrun | .halt => uAChalt
  have XBc : XfC K Bc := ⟨o6Bc, o7Bc, o3Bc, o8Bc⟩
  have OBc : OexC K Bc := ⟨o1Bc, o2Bc, o3Bc, o4Bc, o5Bc⟩
  have EBc : ExcC K Bc := ⟨o6Bc, o7Bc, o3Bc, o8Bc, o9Bc, q1, q2, oABc⟩
  have XBh : XfC K Bh := ⟨o6Bh, o7Bh, o3Bh, o8Bh⟩
  have OBh : OexC K Bh := ⟨o1Bh, o2Bh, o3Bh, o4Bh, o5Bh⟩
  have EBh : ExcC K Bh := ⟨o6Bh, o7Bh, o3Bh, o8Bh, o9Bh, q1, q2, oABh⟩
  have XCB : XfC K CB := ⟨o6CB, o7CB, o3CB, o8CB⟩
  have OCB : OexC K CB := ⟨o1CB, o2CB, o3CB, o4CB, o5CB⟩
  have ECB : ExcC K CB := ⟨o6CB, o7CB, o3CB, o8CB, o9CB, q1, q2, oACB⟩
  have mix := ok_mix (P := l.prog) (w := w) (mg := mg) (base := base) (fun_mk (st := sMix) l9 c9 k9) (PySem.W.mg_of X G a9) T
  have draw := ok_draw (P := l.prog) (w := w) (mg := mg) (base := base) (fun_mk (st := sDraw) l11 c11 k11) (PySem.W.mg_of X G a11) T mix
  have hand := ok_hand (P := l.prog) (w := w) (mg := mg) (base := base) (fun_mk (st := sHand) l10 c10 k10) (PySem.W.mg_of X G a10) T
  have one := ok_one (P := l.prog) (w := w) (mg := mg) (base := base) (fun_mk (st := sOne) l12 c12 k12) (PySem.W.mg_of X G a12) T draw
  have whole := ok_whole (P := l.prog) (w := w) (mg := mg) (base := base) (fun_mk (st := sWhole) l0 c0 k0) (PySem.W.mg_of X G a0) T B
  have label := ok_label (P := l.prog) (w := w) (mg := mg) (base := base) (fun_mk (st := sLabel) l1 c1 k1) (PySem.W.mg_of X G a1) T B
  have seqK := ok_seqK (P := l.prog) (w := w) (mg := mg) (base := base) (fun_mk (st := sSeq) l2 c2 k2) (PySem.W.mg_of X G a2) B
  have llab := ok_llab (P := l.prog) (w := w) (mg := mg) (base := base) (fun_mk (st := sLLabel) l16 c16 k16) (PySem.W.mg_of X G a16) T B
  have seatn := ok_seatname (P := l.prog) (w := w) (mg := mg) (base := base) (fun_mk (st := sIsSeatName) l3 c3 k3) (PySem.W.mg_of X G a3) Nn label
  have seatf := ok_seatf (P := l.prog) (w := w) (mg := mg) (base := base) (fun_mk (st := sSeatFault) l4 c4 k4) (PySem.W.mg_of X G a4) label seatn
  have numf := ok_numf (P := l.prog) (w := w) (mg := mg) (base := base) (fun_mk (st := sNumberFault) l5 c5 k5) (PySem.W.mg_of X G a5) Nn label whole
  have RBc : ErC l.prog w K mg base "BadCondition" ["self", "what"] Bc g0 _ (spInit1 K Bc "what") := ⟨OBc, M0, T0, PySem.W.mg_of X G mBc, (fun_mk (st := sBadCondition_init) L0 D0 N0).binds (fun _ _ _ _ _ _ us hl => by obtain ⟨_, _, rfl⟩ := us2 hl; exact rfl), ok_BadCondition (fun_mk (st := sBadCondition_init) L0 D0 N0), XBc⟩
  have RBh : ErC l.prog w K mg base "BadChange" ["self", "what"] Bh g1 _ (spInit1 K Bh "what") := ⟨OBh, M1, T1, PySem.W.mg_of X G mBh, (fun_mk (st := sBadChange_init) L1 D1 N1).binds (fun _ _ _ _ _ _ us hl => by obtain ⟨_, _, rfl⟩ := us2 hl; exact rfl), ok_BadChange (fun_mk (st := sBadChange_init) L1 D1 N1), XBh⟩
  have RCB : ErC l.prog w K mg base "BadClause" ["self", "index", "what"] CB g2 _ (spInit2 K CB "index" "what") := ⟨OCB, M2, T2, PySem.W.mg_of X G mCB, (fun_mk (st := sBadClause_init) L2 D2 N2).binds (fun _ _ _ _ _ _ us hl => by obtain ⟨_, _, _, rfl⟩ := us3 hl; exact rfl), ok_BadClause (fun_mk (st := sBadClause_init) L2 D2 N2), XCB⟩
  have YBc : ErX K mg "BadCondition" Bc CS Bh "BadChange" "what" := ⟨PySem.W.mg_of X G mBc, PySem.W.mg_of X G mCS, PySem.W.mg_of X G mBh, XBc, EBc, nBc, xBc, yBc, wSBc, wOBc⟩
  have YBh : ErX K mg "BadChange" Bh CS Bc "BadCondition" "what" := ⟨PySem.W.mg_of X G mBh, PySem.W.mg_of X G mCS, PySem.W.mg_of X G mBc, XBh, EBh, nBh, xBh, yBh, wSBh, wOBh⟩
  have YCB : ErX K mg "BadClause" CB CS Bc "BadCondition" "index" := ⟨PySem.W.mg_of X G mCB, PySem.W.mg_of X G mCS, PySem.W.mg_of X G mBc, XCB, ECB, nCBi, xCB, yCB, wSCB, wOCB⟩
  have KCroom : MkP l.prog w K mg base "InRoom" .r Croom Bc g6 _ ["self", "room"] := ⟨⟨u8Croom, M6, (by unfold PySem.W.isFn; rw [T6]; rfl), u9Croom⟩, ok_iroom (P := l.prog) (w := w) (mg := mg) (base := base) (fun_mk (st := sInRoom_init) L6 D6 N6) QCroom label RBc nBc, PySem.W.mg_of X G mCroom, (fun_mk (st := sInRoom_init) L6 D6 N6).binds (fun _ _ _ _ _ _ us hl => by obtain ⟨_, _, rfl⟩ := us2 hl; exact rfl)⟩
  have KCnotroom : MkP l.prog w K mg base "NotInRoom" .r Cnotroom Bc g9 _ ["self", "room"] := ⟨⟨u8Cnotroom, M9, (by unfold PySem.W.isFn; rw [T9]; rfl), u9Cnotroom⟩, ok_inotroom (P := l.prog) (w := w) (mg := mg) (base := base) (fun_mk (st := sNotInRoom_init) L9 D9 N9) QCnotroom label RBc nBc, PySem.W.mg_of X G mCnotroom, (fun_mk (st := sNotInRoom_init) L9 D9 N9).binds (fun _ _ _ _ _ _ us hl => by obtain ⟨_, _, rfl⟩ := us2 hl; exact rfl)⟩
  have KCis_ : MkP l.prog w K mg base "Is" .s Cis_ Bc g12 _ ["self", "seat", "what"] := ⟨⟨u8Cis_, M12, (by unfold PySem.W.isFn; rw [T12]; rfl), u9Cis_⟩, ok_iis_ (P := l.prog) (w := w) (mg := mg) (base := base) (fun_mk (st := sIs_init) L12 D12 N12) QCis_ seatf RBc nBc, PySem.W.mg_of X G mCis_, (fun_mk (st := sIs_init) L12 D12 N12).binds (fun _ _ _ _ _ _ us hl => by obtain ⟨_, _, _, rfl⟩ := us3 hl; exact rfl)⟩
  have KCisnot : MkP l.prog w K mg base "IsNot" .s Cisnot Bc g15 _ ["self", "seat", "what"] := ⟨⟨u8Cisnot, M15, (by unfold PySem.W.isFn; rw [T15]; rfl), u9Cisnot⟩, ok_iisnot (P := l.prog) (w := w) (mg := mg) (base := base) (fun_mk (st := sIsNot_init) L15 D15 N15) QCisnot seatf RBc nBc, PySem.W.mg_of X G mCisnot, (fun_mk (st := sIsNot_init) L15 D15 N15).binds (fun _ _ _ _ _ _ us hl => by obtain ⟨_, _, _, rfl⟩ := us3 hl; exact rfl)⟩
  have ZCsame : Mk0 K Csame := ⟨u8Csame, uBCsame, u9Csame, u7Csame⟩
  have ZCapart : Mk0 K Capart := ⟨u8Capart, uBCapart, u9Capart, u7Capart⟩
  have KCleast : MkP l.prog w K mg base "AtLeast" .c Cleast Bc g22 _ ["self", "clock", "number"] := ⟨⟨u8Cleast, M22, (by unfold PySem.W.isFn; rw [T22]; rfl), u9Cleast⟩, ok_ileast (P := l.prog) (w := w) (mg := mg) (base := base) (fun_mk (st := sAtLeast_init) L22 D22 N22) QCleast numf RBc nBc, PySem.W.mg_of X G mCleast, (fun_mk (st := sAtLeast_init) L22 D22 N22).binds (fun _ _ _ _ _ _ us hl => by obtain ⟨_, _, _, rfl⟩ := us3 hl; exact rfl)⟩
  have KCbelow : MkP l.prog w K mg base "Below" .c Cbelow Bc g25 _ ["self", "clock", "number"] := ⟨⟨u8Cbelow, M25, (by unfold PySem.W.isFn; rw [T25]; rfl), u9Cbelow⟩, ok_ibelow (P := l.prog) (w := w) (mg := mg) (base := base) (fun_mk (st := sBelow_init) L25 D25 N25) QCbelow numf RBc nBc, PySem.W.mg_of X G mCbelow, (fun_mk (st := sBelow_init) L25 D25 N25).binds (fun _ _ _ _ _ _ us hl => by obtain ⟨_, _, _, rfl⟩ := us3 hl; exact rfl)⟩
  have KCto : MkP l.prog w K mg base "ToRoom" .r Cto Bh g28 _ ["self", "room"] := ⟨⟨u8Cto, M28, (by unfold PySem.W.isFn; rw [T28]; rfl), u9Cto⟩, ok_ito (P := l.prog) (w := w) (mg := mg) (base := base) (fun_mk (st := sToRoom_init) L28 D28 N28) QCto label RBh nBh, PySem.W.mg_of X G mCto, (fun_mk (st := sToRoom_init) L28 D28 N28).binds (fun _ _ _ _ _ _ us hl => by obtain ⟨_, _, rfl⟩ := us2 hl; exact rfl)⟩
  have KCput : MkP l.prog w K mg base "Put" .s Cput Bh g30 _ ["self", "seat", "what"] := ⟨⟨u8Cput, M30, (by unfold PySem.W.isFn; rw [T30]; rfl), u9Cput⟩, ok_iput (P := l.prog) (w := w) (mg := mg) (base := base) (fun_mk (st := sPut_init) L30 D30 N30) QCput seatf RBh nBh, PySem.W.mg_of X G mCput, (fun_mk (st := sPut_init) L30 D30 N30).binds (fun _ _ _ _ _ _ us hl => by obtain ⟨_, _, _, rfl⟩ := us3 hl; exact rfl)⟩
  have KCzero : MkP l.prog w K mg base "Zero" .k Czero Bh g32 _ ["self", "clock"] := ⟨⟨u8Czero, M32, (by unfold PySem.W.isFn; rw [T32]; rfl), u9Czero⟩, ok_izero (P := l.prog) (w := w) (mg := mg) (base := base) (fun_mk (st := sZero_init) L32 D32 N32) QCzero label RBh nBh, PySem.W.mg_of X G mCzero, (fun_mk (st := sZero_init) L32 D32 N32).binds (fun _ _ _ _ _ _ us hl => by obtain ⟨_, _, rfl⟩ := us2 hl; exact rfl)⟩
  have KCrun : MkP l.prog w K mg base "Run" .k Crun Bh g34 _ ["self", "clock"] := ⟨⟨u8Crun, M34, (by unfold PySem.W.isFn; rw [T34]; rfl), u9Crun⟩, ok_irun (P := l.prog) (w := w) (mg := mg) (base := base) (fun_mk (st := sRun_init) L34 D34 N34) QCrun label RBh nBh, PySem.W.mg_of X G mCrun, (fun_mk (st := sRun_init) L34 D34 N34).binds (fun _ _ _ _ _ _ us hl => by obtain ⟨_, _, rfl⟩ := us2 hl; exact rfl)⟩
  have KChalt : MkP l.prog w K mg base "Halt" .k Chalt Bh g36 _ ["self", "clock"] := ⟨⟨u8Chalt, M36, (by unfold PySem.W.isFn; rw [T36]; rfl), u9Chalt⟩, ok_ihalt (P := l.prog) (w := w) (mg := mg) (base := base) (fun_mk (st := sHalt_init) L36 D36 N36) QChalt label RBh nBh, PySem.W.mg_of X G mChalt, (fun_mk (st := sHalt_init) L36 D36 N36).binds (fun _ _ _ _ _ _ us hl => by obtain ⟨_, _, rfl⟩ := us2 hl; exact rfl)⟩
  have PM : PkM l.prog w K mg base (mkCs Croom Cnotroom Cis_ Cisnot Csame Capart Cleast Cbelow Cto Cput Czero Crun Chalt) Bc Bh := ⟨fun k hk => match k, hk with | .room, _ => ⟨_, _, KCroom⟩ | .notroom, _ => ⟨_, _, KCnotroom⟩ | .is_, _ => ⟨_, _, KCis_⟩ | .isnot, _ => ⟨_, _, KCisnot⟩ | .same, h => absurd rfl h | .apart, h => absurd rfl h | .least, _ => ⟨_, _, KCleast⟩ | .below, _ => ⟨_, _, KCbelow⟩ | .to, _ => ⟨_, _, KCto⟩ | .put, _ => ⟨_, _, KCput⟩ | .zero, _ => ⟨_, _, KCzero⟩ | .run, _ => ⟨_, _, KCrun⟩ | .halt, _ => ⟨_, _, KChalt⟩, fun k hk => match k, hk with | .room, h => (nomatch h) | .notroom, h => (nomatch h) | .is_, h => (nomatch h) | .isnot, h => (nomatch h) | .same, _ => ZCsame | .apart, _ => ZCapart | .least, h => (nomatch h) | .below, h => (nomatch h) | .to, h => (nomatch h) | .put, h => (nomatch h) | .zero, h => (nomatch h) | .run, h => (nomatch h) | .halt, h => (nomatch h), fun k => match k with | .room => (PySem.W.mg_of X G mCroom) | .notroom => (PySem.W.mg_of X G mCnotroom) | .is_ => (PySem.W.mg_of X G mCis_) | .isnot => (PySem.W.mg_of X G mCisnot) | .same => (PySem.W.mg_of X G mCsame) | .apart => (PySem.W.mg_of X G mCapart) | .least => (PySem.W.mg_of X G mCleast) | .below => (PySem.W.mg_of X G mCbelow) | .to => (PySem.W.mg_of X G mCto) | .put => (PySem.W.mg_of X G mCput) | .zero => (PySem.W.mg_of X G mCzero) | .run => (PySem.W.mg_of X G mCrun) | .halt => (PySem.W.mg_of X G mChalt)⟩
  have ECroom : OwnM l.prog w K mg base ((mkCs Croom Cnotroom Cis_ Cisnot Csame Capart Cleast Cbelow Cto Cput Czero Crun Chalt) .room) "__eq__" 1 ["self", "other"] (spPEq (mkCs Croom Cnotroom Cis_ Cisnot Csame Capart Cleast Cbelow Cto Cput Czero Crun Chalt) .room) g7 _ := ⟨⟨M7, (by unfold PySem.W.isFn; rw [T7]; rfl), N7⟩, ok_qroom (P := l.prog) (w := w) (mg := mg) (base := base) (Cs := (mkCs Croom Cnotroom Cis_ Cisnot Csame Capart Cleast Cbelow Cto Cput Czero Crun Chalt)) (fun_mk (st := sInRoom_eq) L7 D7 N7) B PC (PySem.W.mg_of X G mCroom), (fun_mk (st := sInRoom_eq) L7 D7 N7).binds (fun _ _ _ _ _ _ us hl => by obtain ⟨_, _, rfl⟩ := us2 hl; exact rfl)⟩
  have ECnotroom : OwnM l.prog w K mg base ((mkCs Croom Cnotroom Cis_ Cisnot Csame Capart Cleast Cbelow Cto Cput Czero Crun Chalt) .notroom) "__eq__" 1 ["self", "other"] (spPEq (mkCs Croom Cnotroom Cis_ Cisnot Csame Capart Cleast Cbelow Cto Cput Czero Crun Chalt) .notroom) g10 _ := ⟨⟨M10, (by unfold PySem.W.isFn; rw [T10]; rfl), N10⟩, ok_qnotroom (P := l.prog) (w := w) (mg := mg) (base := base) (Cs := (mkCs Croom Cnotroom Cis_ Cisnot Csame Capart Cleast Cbelow Cto Cput Czero Crun Chalt)) (fun_mk (st := sNotInRoom_eq) L10 D10 N10) B PC (PySem.W.mg_of X G mCnotroom), (fun_mk (st := sNotInRoom_eq) L10 D10 N10).binds (fun _ _ _ _ _ _ us hl => by obtain ⟨_, _, rfl⟩ := us2 hl; exact rfl)⟩
  have ECis_ : OwnM l.prog w K mg base ((mkCs Croom Cnotroom Cis_ Cisnot Csame Capart Cleast Cbelow Cto Cput Czero Crun Chalt) .is_) "__eq__" 1 ["self", "other"] (spPEq (mkCs Croom Cnotroom Cis_ Cisnot Csame Capart Cleast Cbelow Cto Cput Czero Crun Chalt) .is_) g13 _ := ⟨⟨M13, (by unfold PySem.W.isFn; rw [T13]; rfl), N13⟩, ok_qis_ (P := l.prog) (w := w) (mg := mg) (base := base) (Cs := (mkCs Croom Cnotroom Cis_ Cisnot Csame Capart Cleast Cbelow Cto Cput Czero Crun Chalt)) (fun_mk (st := sIs_eq) L13 D13 N13) B PC (PySem.W.mg_of X G mCis_), (fun_mk (st := sIs_eq) L13 D13 N13).binds (fun _ _ _ _ _ _ us hl => by obtain ⟨_, _, rfl⟩ := us2 hl; exact rfl)⟩
  have ECisnot : OwnM l.prog w K mg base ((mkCs Croom Cnotroom Cis_ Cisnot Csame Capart Cleast Cbelow Cto Cput Czero Crun Chalt) .isnot) "__eq__" 1 ["self", "other"] (spPEq (mkCs Croom Cnotroom Cis_ Cisnot Csame Capart Cleast Cbelow Cto Cput Czero Crun Chalt) .isnot) g16 _ := ⟨⟨M16, (by unfold PySem.W.isFn; rw [T16]; rfl), N16⟩, ok_qisnot (P := l.prog) (w := w) (mg := mg) (base := base) (Cs := (mkCs Croom Cnotroom Cis_ Cisnot Csame Capart Cleast Cbelow Cto Cput Czero Crun Chalt)) (fun_mk (st := sIsNot_eq) L16 D16 N16) B PC (PySem.W.mg_of X G mCisnot), (fun_mk (st := sIsNot_eq) L16 D16 N16).binds (fun _ _ _ _ _ _ us hl => by obtain ⟨_, _, rfl⟩ := us2 hl; exact rfl)⟩
  have ECsame : OwnM l.prog w K mg base ((mkCs Croom Cnotroom Cis_ Cisnot Csame Capart Cleast Cbelow Cto Cput Czero Crun Chalt) .same) "__eq__" 1 ["self", "other"] (spPEq (mkCs Croom Cnotroom Cis_ Cisnot Csame Capart Cleast Cbelow Cto Cput Czero Crun Chalt) .same) g18 _ := ⟨⟨M18, (by unfold PySem.W.isFn; rw [T18]; rfl), N18⟩, ok_qsame (P := l.prog) (w := w) (mg := mg) (base := base) (Cs := (mkCs Croom Cnotroom Cis_ Cisnot Csame Capart Cleast Cbelow Cto Cput Czero Crun Chalt)) (fun_mk (st := sSamePerson_eq) L18 D18 N18) B PC (PySem.W.mg_of X G mCsame), (fun_mk (st := sSamePerson_eq) L18 D18 N18).binds (fun _ _ _ _ _ _ us hl => by obtain ⟨_, _, rfl⟩ := us2 hl; exact rfl)⟩
  have ECapart : OwnM l.prog w K mg base ((mkCs Croom Cnotroom Cis_ Cisnot Csame Capart Cleast Cbelow Cto Cput Czero Crun Chalt) .apart) "__eq__" 1 ["self", "other"] (spPEq (mkCs Croom Cnotroom Cis_ Cisnot Csame Capart Cleast Cbelow Cto Cput Czero Crun Chalt) .apart) g20 _ := ⟨⟨M20, (by unfold PySem.W.isFn; rw [T20]; rfl), N20⟩, ok_qapart (P := l.prog) (w := w) (mg := mg) (base := base) (Cs := (mkCs Croom Cnotroom Cis_ Cisnot Csame Capart Cleast Cbelow Cto Cput Czero Crun Chalt)) (fun_mk (st := sApart_eq) L20 D20 N20) B PC (PySem.W.mg_of X G mCapart), (fun_mk (st := sApart_eq) L20 D20 N20).binds (fun _ _ _ _ _ _ us hl => by obtain ⟨_, _, rfl⟩ := us2 hl; exact rfl)⟩
  have ECleast : OwnM l.prog w K mg base ((mkCs Croom Cnotroom Cis_ Cisnot Csame Capart Cleast Cbelow Cto Cput Czero Crun Chalt) .least) "__eq__" 1 ["self", "other"] (spPEq (mkCs Croom Cnotroom Cis_ Cisnot Csame Capart Cleast Cbelow Cto Cput Czero Crun Chalt) .least) g23 _ := ⟨⟨M23, (by unfold PySem.W.isFn; rw [T23]; rfl), N23⟩, ok_qleast (P := l.prog) (w := w) (mg := mg) (base := base) (Cs := (mkCs Croom Cnotroom Cis_ Cisnot Csame Capart Cleast Cbelow Cto Cput Czero Crun Chalt)) (fun_mk (st := sAtLeast_eq) L23 D23 N23) B PC (PySem.W.mg_of X G mCleast), (fun_mk (st := sAtLeast_eq) L23 D23 N23).binds (fun _ _ _ _ _ _ us hl => by obtain ⟨_, _, rfl⟩ := us2 hl; exact rfl)⟩
  have ECbelow : OwnM l.prog w K mg base ((mkCs Croom Cnotroom Cis_ Cisnot Csame Capart Cleast Cbelow Cto Cput Czero Crun Chalt) .below) "__eq__" 1 ["self", "other"] (spPEq (mkCs Croom Cnotroom Cis_ Cisnot Csame Capart Cleast Cbelow Cto Cput Czero Crun Chalt) .below) g26 _ := ⟨⟨M26, (by unfold PySem.W.isFn; rw [T26]; rfl), N26⟩, ok_qbelow (P := l.prog) (w := w) (mg := mg) (base := base) (Cs := (mkCs Croom Cnotroom Cis_ Cisnot Csame Capart Cleast Cbelow Cto Cput Czero Crun Chalt)) (fun_mk (st := sBelow_eq) L26 D26 N26) B PC (PySem.W.mg_of X G mCbelow), (fun_mk (st := sBelow_eq) L26 D26 N26).binds (fun _ _ _ _ _ _ us hl => by obtain ⟨_, _, rfl⟩ := us2 hl; exact rfl)⟩
  have ECto : OwnM l.prog w K mg base ((mkCs Croom Cnotroom Cis_ Cisnot Csame Capart Cleast Cbelow Cto Cput Czero Crun Chalt) .to) "__eq__" 1 ["self", "other"] (spPEq (mkCs Croom Cnotroom Cis_ Cisnot Csame Capart Cleast Cbelow Cto Cput Czero Crun Chalt) .to) g29 _ := ⟨⟨M29, (by unfold PySem.W.isFn; rw [T29]; rfl), N29⟩, ok_qto (P := l.prog) (w := w) (mg := mg) (base := base) (Cs := (mkCs Croom Cnotroom Cis_ Cisnot Csame Capart Cleast Cbelow Cto Cput Czero Crun Chalt)) (fun_mk (st := sToRoom_eq) L29 D29 N29) B PC (PySem.W.mg_of X G mCto), (fun_mk (st := sToRoom_eq) L29 D29 N29).binds (fun _ _ _ _ _ _ us hl => by obtain ⟨_, _, rfl⟩ := us2 hl; exact rfl)⟩
  have ECput : OwnM l.prog w K mg base ((mkCs Croom Cnotroom Cis_ Cisnot Csame Capart Cleast Cbelow Cto Cput Czero Crun Chalt) .put) "__eq__" 1 ["self", "other"] (spPEq (mkCs Croom Cnotroom Cis_ Cisnot Csame Capart Cleast Cbelow Cto Cput Czero Crun Chalt) .put) g31 _ := ⟨⟨M31, (by unfold PySem.W.isFn; rw [T31]; rfl), N31⟩, ok_qput (P := l.prog) (w := w) (mg := mg) (base := base) (Cs := (mkCs Croom Cnotroom Cis_ Cisnot Csame Capart Cleast Cbelow Cto Cput Czero Crun Chalt)) (fun_mk (st := sPut_eq) L31 D31 N31) B PC (PySem.W.mg_of X G mCput), (fun_mk (st := sPut_eq) L31 D31 N31).binds (fun _ _ _ _ _ _ us hl => by obtain ⟨_, _, rfl⟩ := us2 hl; exact rfl)⟩
  have ECzero : OwnM l.prog w K mg base ((mkCs Croom Cnotroom Cis_ Cisnot Csame Capart Cleast Cbelow Cto Cput Czero Crun Chalt) .zero) "__eq__" 1 ["self", "other"] (spPEq (mkCs Croom Cnotroom Cis_ Cisnot Csame Capart Cleast Cbelow Cto Cput Czero Crun Chalt) .zero) g33 _ := ⟨⟨M33, (by unfold PySem.W.isFn; rw [T33]; rfl), N33⟩, ok_qzero (P := l.prog) (w := w) (mg := mg) (base := base) (Cs := (mkCs Croom Cnotroom Cis_ Cisnot Csame Capart Cleast Cbelow Cto Cput Czero Crun Chalt)) (fun_mk (st := sZero_eq) L33 D33 N33) B PC (PySem.W.mg_of X G mCzero), (fun_mk (st := sZero_eq) L33 D33 N33).binds (fun _ _ _ _ _ _ us hl => by obtain ⟨_, _, rfl⟩ := us2 hl; exact rfl)⟩
  have ECrun : OwnM l.prog w K mg base ((mkCs Croom Cnotroom Cis_ Cisnot Csame Capart Cleast Cbelow Cto Cput Czero Crun Chalt) .run) "__eq__" 1 ["self", "other"] (spPEq (mkCs Croom Cnotroom Cis_ Cisnot Csame Capart Cleast Cbelow Cto Cput Czero Crun Chalt) .run) g35 _ := ⟨⟨M35, (by unfold PySem.W.isFn; rw [T35]; rfl), N35⟩, ok_qrun (P := l.prog) (w := w) (mg := mg) (base := base) (Cs := (mkCs Croom Cnotroom Cis_ Cisnot Csame Capart Cleast Cbelow Cto Cput Czero Crun Chalt)) (fun_mk (st := sRun_eq) L35 D35 N35) B PC (PySem.W.mg_of X G mCrun), (fun_mk (st := sRun_eq) L35 D35 N35).binds (fun _ _ _ _ _ _ us hl => by obtain ⟨_, _, rfl⟩ := us2 hl; exact rfl)⟩
  have EChalt : OwnM l.prog w K mg base ((mkCs Croom Cnotroom Cis_ Cisnot Csame Capart Cleast Cbelow Cto Cput Czero Crun Chalt) .halt) "__eq__" 1 ["self", "other"] (spPEq (mkCs Croom Cnotroom Cis_ Cisnot Csame Capart Cleast Cbelow Cto Cput Czero Crun Chalt) .halt) g37 _ := ⟨⟨M37, (by unfold PySem.W.isFn; rw [T37]; rfl), N37⟩, ok_qhalt (P := l.prog) (w := w) (mg := mg) (base := base) (Cs := (mkCs Croom Cnotroom Cis_ Cisnot Csame Capart Cleast Cbelow Cto Cput Czero Crun Chalt)) (fun_mk (st := sHalt_eq) L37 D37 N37) B PC (PySem.W.mg_of X G mChalt), (fun_mk (st := sHalt_eq) L37 D37 N37).binds (fun _ _ _ _ _ _ us hl => by obtain ⟨_, _, rfl⟩ := us2 hl; exact rfl)⟩
  have EM : EqM l.prog w K mg base (mkCs Croom Cnotroom Cis_ Cisnot Csame Capart Cleast Cbelow Cto Cput Czero Crun Chalt) := fun k => match k with | .room => ⟨_, _, ECroom⟩ | .notroom => ⟨_, _, ECnotroom⟩ | .is_ => ⟨_, _, ECis_⟩ | .isnot => ⟨_, _, ECisnot⟩ | .same => ⟨_, _, ECsame⟩ | .apart => ⟨_, _, ECapart⟩ | .least => ⟨_, _, ECleast⟩ | .below => ⟨_, _, ECbelow⟩ | .to => ⟨_, _, ECto⟩ | .put => ⟨_, _, ECput⟩ | .zero => ⟨_, _, ECzero⟩ | .run => ⟨_, _, ECrun⟩ | .halt => ⟨_, _, EChalt⟩
  have PCroom : OwnM l.prog w K mg base ((mkCs Croom Cnotroom Cis_ Cisnot Csame Capart Cleast Cbelow Cto Cput Czero Crun Chalt) .room) "opposite" 6 ["self"] (spOpp (mkCs Croom Cnotroom Cis_ Cisnot Csame Capart Cleast Cbelow Cto Cput Czero Crun Chalt) .room) g8 _ := ⟨⟨M8, (by unfold PySem.W.isFn; rw [T8]; rfl), N8⟩, ok_oroom (P := l.prog) (w := w) (mg := mg) (base := base) (Cs := (mkCs Croom Cnotroom Cis_ Cisnot Csame Capart Cleast Cbelow Cto Cput Czero Crun Chalt)) (fun_mk (st := sInRoom_opposite) L8 D8 N8) PC KCnotroom, (fun_mk (st := sInRoom_opposite) L8 D8 N8).binds (fun _ _ _ _ _ _ us hl => by obtain ⟨_, rfl⟩ := us1 hl; exact rfl)⟩
  have PCnotroom : OwnM l.prog w K mg base ((mkCs Croom Cnotroom Cis_ Cisnot Csame Capart Cleast Cbelow Cto Cput Czero Crun Chalt) .notroom) "opposite" 6 ["self"] (spOpp (mkCs Croom Cnotroom Cis_ Cisnot Csame Capart Cleast Cbelow Cto Cput Czero Crun Chalt) .notroom) g11 _ := ⟨⟨M11, (by unfold PySem.W.isFn; rw [T11]; rfl), N11⟩, ok_onotroom (P := l.prog) (w := w) (mg := mg) (base := base) (Cs := (mkCs Croom Cnotroom Cis_ Cisnot Csame Capart Cleast Cbelow Cto Cput Czero Crun Chalt)) (fun_mk (st := sNotInRoom_opposite) L11 D11 N11) PC KCroom, (fun_mk (st := sNotInRoom_opposite) L11 D11 N11).binds (fun _ _ _ _ _ _ us hl => by obtain ⟨_, rfl⟩ := us1 hl; exact rfl)⟩
  have PCis_ : OwnM l.prog w K mg base ((mkCs Croom Cnotroom Cis_ Cisnot Csame Capart Cleast Cbelow Cto Cput Czero Crun Chalt) .is_) "opposite" 6 ["self"] (spOpp (mkCs Croom Cnotroom Cis_ Cisnot Csame Capart Cleast Cbelow Cto Cput Czero Crun Chalt) .is_) g14 _ := ⟨⟨M14, (by unfold PySem.W.isFn; rw [T14]; rfl), N14⟩, ok_ois_ (P := l.prog) (w := w) (mg := mg) (base := base) (Cs := (mkCs Croom Cnotroom Cis_ Cisnot Csame Capart Cleast Cbelow Cto Cput Czero Crun Chalt)) (fun_mk (st := sIs_opposite) L14 D14 N14) PC KCisnot, (fun_mk (st := sIs_opposite) L14 D14 N14).binds (fun _ _ _ _ _ _ us hl => by obtain ⟨_, rfl⟩ := us1 hl; exact rfl)⟩
  have PCisnot : OwnM l.prog w K mg base ((mkCs Croom Cnotroom Cis_ Cisnot Csame Capart Cleast Cbelow Cto Cput Czero Crun Chalt) .isnot) "opposite" 6 ["self"] (spOpp (mkCs Croom Cnotroom Cis_ Cisnot Csame Capart Cleast Cbelow Cto Cput Czero Crun Chalt) .isnot) g17 _ := ⟨⟨M17, (by unfold PySem.W.isFn; rw [T17]; rfl), N17⟩, ok_oisnot (P := l.prog) (w := w) (mg := mg) (base := base) (Cs := (mkCs Croom Cnotroom Cis_ Cisnot Csame Capart Cleast Cbelow Cto Cput Czero Crun Chalt)) (fun_mk (st := sIsNot_opposite) L17 D17 N17) PC KCis_, (fun_mk (st := sIsNot_opposite) L17 D17 N17).binds (fun _ _ _ _ _ _ us hl => by obtain ⟨_, rfl⟩ := us1 hl; exact rfl)⟩
  have PCsame : OwnM l.prog w K mg base ((mkCs Croom Cnotroom Cis_ Cisnot Csame Capart Cleast Cbelow Cto Cput Czero Crun Chalt) .same) "opposite" 6 ["self"] (spOpp (mkCs Croom Cnotroom Cis_ Cisnot Csame Capart Cleast Cbelow Cto Cput Czero Crun Chalt) .same) g19 _ := ⟨⟨M19, (by unfold PySem.W.isFn; rw [T19]; rfl), N19⟩, ok_osame (P := l.prog) (w := w) (mg := mg) (base := base) (Cs := (mkCs Croom Cnotroom Cis_ Cisnot Csame Capart Cleast Cbelow Cto Cput Czero Crun Chalt)) (fun_mk (st := sSamePerson_opposite) L19 D19 N19) ZCapart (PySem.W.mg_of X G mCapart), (fun_mk (st := sSamePerson_opposite) L19 D19 N19).binds (fun _ _ _ _ _ _ us hl => by obtain ⟨_, rfl⟩ := us1 hl; exact rfl)⟩
  have PCapart : OwnM l.prog w K mg base ((mkCs Croom Cnotroom Cis_ Cisnot Csame Capart Cleast Cbelow Cto Cput Czero Crun Chalt) .apart) "opposite" 6 ["self"] (spOpp (mkCs Croom Cnotroom Cis_ Cisnot Csame Capart Cleast Cbelow Cto Cput Czero Crun Chalt) .apart) g21 _ := ⟨⟨M21, (by unfold PySem.W.isFn; rw [T21]; rfl), N21⟩, ok_oapart (P := l.prog) (w := w) (mg := mg) (base := base) (Cs := (mkCs Croom Cnotroom Cis_ Cisnot Csame Capart Cleast Cbelow Cto Cput Czero Crun Chalt)) (fun_mk (st := sApart_opposite) L21 D21 N21) ZCsame (PySem.W.mg_of X G mCsame), (fun_mk (st := sApart_opposite) L21 D21 N21).binds (fun _ _ _ _ _ _ us hl => by obtain ⟨_, rfl⟩ := us1 hl; exact rfl)⟩
  have PCleast : OwnM l.prog w K mg base ((mkCs Croom Cnotroom Cis_ Cisnot Csame Capart Cleast Cbelow Cto Cput Czero Crun Chalt) .least) "opposite" 6 ["self"] (spOpp (mkCs Croom Cnotroom Cis_ Cisnot Csame Capart Cleast Cbelow Cto Cput Czero Crun Chalt) .least) g24 _ := ⟨⟨M24, (by unfold PySem.W.isFn; rw [T24]; rfl), N24⟩, ok_oleast (P := l.prog) (w := w) (mg := mg) (base := base) (Cs := (mkCs Croom Cnotroom Cis_ Cisnot Csame Capart Cleast Cbelow Cto Cput Czero Crun Chalt)) (fun_mk (st := sAtLeast_opposite) L24 D24 N24) PC KCbelow, (fun_mk (st := sAtLeast_opposite) L24 D24 N24).binds (fun _ _ _ _ _ _ us hl => by obtain ⟨_, rfl⟩ := us1 hl; exact rfl)⟩
  have PCbelow : OwnM l.prog w K mg base ((mkCs Croom Cnotroom Cis_ Cisnot Csame Capart Cleast Cbelow Cto Cput Czero Crun Chalt) .below) "opposite" 6 ["self"] (spOpp (mkCs Croom Cnotroom Cis_ Cisnot Csame Capart Cleast Cbelow Cto Cput Czero Crun Chalt) .below) g27 _ := ⟨⟨M27, (by unfold PySem.W.isFn; rw [T27]; rfl), N27⟩, ok_obelow (P := l.prog) (w := w) (mg := mg) (base := base) (Cs := (mkCs Croom Cnotroom Cis_ Cisnot Csame Capart Cleast Cbelow Cto Cput Czero Crun Chalt)) (fun_mk (st := sBelow_opposite) L27 D27 N27) PC KCleast, (fun_mk (st := sBelow_opposite) L27 D27 N27).binds (fun _ _ _ _ _ _ us hl => by obtain ⟨_, rfl⟩ := us1 hl; exact rfl)⟩
  have OM : OpM l.prog w K mg base (mkCs Croom Cnotroom Cis_ Cisnot Csame Capart Cleast Cbelow Cto Cput Czero Crun Chalt) := fun k hk => match k, hk with | .room, _ => ⟨_, _, PCroom⟩ | .notroom, _ => ⟨_, _, PCnotroom⟩ | .is_, _ => ⟨_, _, PCis_⟩ | .isnot, _ => ⟨_, _, PCisnot⟩ | .same, _ => ⟨_, _, PCsame⟩ | .apart, _ => ⟨_, _, PCapart⟩ | .least, _ => ⟨_, _, PCleast⟩ | .below, _ => ⟨_, _, PCbelow⟩ | .to, h => absurd h (by decide) | .put, h => absurd h (by decide) | .zero, h => absurd h (by decide) | .run, h => absurd h (by decide) | .halt, h => absurd h (by decide)
  have chgby := ok_chgby (P := l.prog) (w := w) (mg := mg) (base := base) (Cs := (mkCs Croom Cnotroom Cis_ Cisnot Csame Capart Cleast Cbelow Cto Cput Czero Crun Chalt)) (fun_mk (st := sChangedBy) l8 c8 k8) (PySem.W.mg_of X G a8) B PC (PySem.W.mg_of X G mCto) (PySem.W.mg_of X G mCput) (PySem.W.mg_of X G mCzero)
  have chkco := ok_chkco (P := l.prog) (w := w) (mg := mg) (base := base) (Cs := (mkCs Croom Cnotroom Cis_ Cisnot Csame Capart Cleast Cbelow Cto Cput Czero Crun Chalt)) (fun_mk (st := sCheckConditions) l6 c6 k6) (PySem.W.mg_of X G a6) T B Nn PC PB EM seqK RCB nCBi nCB
  have chkch := ok_chkch (P := l.prog) (w := w) (mg := mg) (base := base) (Cs := (mkCs Croom Cnotroom Cis_ Cisnot Csame Capart Cleast Cbelow Cto Cput Czero Crun Chalt)) (fun_mk (st := sCheckChanges) l7 c7 k7) (PySem.W.mg_of X G a7) T B Nn PC PB chgby seqK RCB nCBi nCB
  have FI : FunD K "__init__" "Clause.__init__" (defArgs sClause_init) (defBody sClause_init) (defScope sClause_init) [V.ref e1, V.ref e2] [] g39 _ := ⟨⟨_, _, _, _, _, _, _, _, _, _, rfl, L39, D39, .inr ⟨by simp, pT, _, [.ref e1, .ref e2], _, rfl, H1, rfl, .cons rfl (.cons rfl .nil)⟩, .inl rfl⟩, N39⟩
  have GI := ok_clause (P := l.prog) (w := w) (mg := mg) (base := base) (Cs := (mkCs Croom Cnotroom Cis_ Cisnot Csame Capart Cleast Cbelow Cto Cput Czero Crun Chalt)) FI B QCC label chkco chkch RCB nCBi nCB
  have CM : ClM l.prog w K mg base (mkCs Croom Cnotroom Cis_ Cisnot Csame Capart Cleast Cbelow Cto Cput Czero Crun Chalt) CC CB g39 _ := ⟨⟨u8CC, M39, (by unfold PySem.W.isFn; rw [T39]; rfl), u9CC⟩, GI, (PySem.W.mg_of X G mCC), clause_binds4 FI⟩
  obtain ⟨ds1, r1v, b1v⟩ := clause_binds2 FI
  obtain ⟨ds2, r2v, b2v⟩ := clause_binds3 FI
  have CE : OwnM l.prog w K mg base CC "__eq__" 3 ["self", "other"] (spCEq K (mkCs Croom Cnotroom Cis_ Cisnot Csame Capart Cleast Cbelow Cto Cput Czero Crun Chalt) CC) g3 _ := ⟨⟨M3, (by unfold PySem.W.isFn; rw [T3]; rfl), N3⟩, ok_ceq (P := l.prog) (w := w) (mg := mg) (base := base) (Cs := (mkCs Croom Cnotroom Cis_ Cisnot Csame Capart Cleast Cbelow Cto Cput Czero Crun Chalt)) (fun_mk (st := sClause_eq) L3 D3 N3) B PC EM QCC (PySem.W.mg_of X G mCC), (fun_mk (st := sClause_eq) L3 D3 N3).binds (fun _ _ _ _ _ _ us hl => by obtain ⟨_, _, rfl⟩ := us2 hl; exact rfl)⟩
  have PA : PropOf K CC "arity" p0 g38 := ⟨P0a, P0b, P0c, _, P0d⟩
  have GA := ok_arity (P := l.prog) (w := w) (mg := mg) (base := base) (Cs := (mkCs Croom Cnotroom Cis_ Cisnot Csame Capart Cleast Cbelow Cto Cput Czero Crun Chalt)) (CC := CC) (fun_mk (st := sClause_arity) L38 D38 N38) B PC QCC (PySem.W.mg_of X G mCis_) (PySem.W.mg_of X G mCisnot) (PySem.W.mg_of X G mCput) (PySem.W.mg_of X G mCsame) (PySem.W.mg_of X G mCapart)
  have bA := (fun_mk (st := sClause_arity) L38 D38 N38).binds (ps := ["self"]) (fun _ _ _ _ _ _ us hl => by obtain ⟨_, rfl⟩ := us1 hl; exact rfl)
  have MW : Meth K CC "with_condition" g4 := ⟨M4, (by unfold PySem.W.isFn; rw [T4]; rfl), N4⟩
  have GW := ok_with (P := l.prog) (w := w) (mg := mg) (base := base) (Cs := (mkCs Croom Cnotroom Cis_ Cisnot Csame Capart Cleast Cbelow Cto Cput Czero Crun Chalt)) (fun_mk (st := sClause_with_condition) L4 D4 N4) QCC CM
  have bW := (fun_mk (st := sClause_with_condition) L4 D4 N4).binds (ps := ["self", "condition"]) (fun _ _ _ _ _ _ us hl => by obtain ⟨_, _, rfl⟩ := us2 hl; exact rfl)
  have MS : Meth K CC "split" g5 := ⟨M5, (by unfold PySem.W.isFn; rw [T5]; rfl), N5⟩
  have GS := ok_split (P := l.prog) (w := w) (mg := mg) (base := base) (Cs := (mkCs Croom Cnotroom Cis_ Cisnot Csame Capart Cleast Cbelow Cto Cput Czero Crun Chalt)) (fun_mk (st := sClause_split) L5 D5 N5) PC QCC MW GW bW OM
  have bS := (fun_mk (st := sClause_split) L5 D5 N5).binds (ps := ["self", "condition"]) (fun _ _ _ _ _ _ us hl => by obtain ⟨_, _, rfl⟩ := us2 hl; exact rfl)
  have letters := ok_letters (P := l.prog) (w := w) (mg := mg) (base := base) (fun_mk (st := sLLetters) l14 c14 k14) (PySem.W.mg_of X G a14) T draw
  have lwhole := ok_lwhole (P := l.prog) (w := w) (mg := mg) (base := base) (fun_mk (st := sLWhole) l15 c15 k15) (PySem.W.mg_of X G a15) T B
  have thing := ok_thing (P := l.prog) (w := w) (mg := mg) (base := base) (fun_mk (st := sLThing) l17 c17 k17) (PySem.W.mg_of X G a17) draw one letters
  have number := ok_number (P := l.prog) (w := w) (mg := mg) (base := base) (fun_mk (st := sLNumber) l18 c18 k18) (PySem.W.mg_of X G a18) draw one
  have words := ok_words (P := l.prog) (w := w) (mg := mg) (base := base) (fun_mk (st := sLWords) l19 c19 k19) (PySem.W.mg_of X G a19) 
  have pword := ok_pword (P := l.prog) (w := w) (mg := mg) (base := base) (fun_mk (st := sLPieceWord) l20 c20 k20) (PySem.W.mg_of X G a20) T lwhole llab
  have lpiece := ok_lpiece (P := l.prog) (w := w) (mg := mg) (base := base) (Cs := (mkCs Croom Cnotroom Cis_ Cisnot Csame Capart Cleast Cbelow Cto Cput Czero Crun Chalt)) (fun_mk (st := sLPiece) l13 c13 k13) (PySem.W.mg_of X G a13) PM
  have tryp := ok_tryp (P := l.prog) (w := w) (mg := mg) (base := base) (Cs := (mkCs Croom Cnotroom Cis_ Cisnot Csame Capart Cleast Cbelow Cto Cput Czero Crun Chalt)) (fun_mk (st := sLTryPiece) l21 c21 k21) (PySem.W.mg_of X G a21) B lpiece YBc YBh
  have lclass := ok_lclass (P := l.prog) (w := w) (mg := mg) (base := base) (Cs := (mkCs Croom Cnotroom Cis_ Cisnot Csame Capart Cleast Cbelow Cto Cput Czero Crun Chalt)) (fun_mk (st := sLClass) l22 c22 k22) (PySem.W.mg_of X G a22) B PC PM.m
  have lrow := ok_lrow (P := l.prog) (w := w) (mg := mg) (base := base) (Cs := (mkCs Croom Cnotroom Cis_ Cisnot Csame Capart Cleast Cbelow Cto Cput Czero Crun Chalt)) (fun_mk (st := sLRow) l23 c23 k23) (PySem.W.mg_of X G a23) B PC lclass
  have pright := ok_pright (P := l.prog) (w := w) (mg := mg) (base := base) (Cs := (mkCs Croom Cnotroom Cis_ Cisnot Csame Capart Cleast Cbelow Cto Cput Czero Crun Chalt)) (fun_mk (st := sLPieceRight) l24 c24 k24) (PySem.W.mg_of X G a24) B PC PB NM EM OM lrow
  have drawn := ok_drawn (P := l.prog) (w := w) (mg := mg) (base := base) (fun_mk (st := sLDrawnPiece) l25 c25 k25) (PySem.W.mg_of X G a25) one words number thing pword
  have few := ok_few (P := l.prog) (w := w) (mg := mg) (base := base) (fun_mk (st := sLFew) l26 c26 k26) (PySem.W.mg_of X G a26) draw one
  have chth := ok_chth (P := l.prog) (w := w) (mg := mg) (base := base) (fun_mk (st := sLChangedThing) l28 c28 k28) (PySem.W.mg_of X G a28) 
  have cword := ok_cword (P := l.prog) (w := w) (mg := mg) (base := base) (fun_mk (st := sLClauseWord) l29 c29 k29) (PySem.W.mg_of X G a29) T llab chth
  have cparts := ok_cparts (P := l.prog) (w := w) (mg := mg) (base := base) (fun_mk (st := sLClauseParts) l27 c27 k27) (PySem.W.mg_of X G a27) T draw letters one few chth
  have pieces := ok_pieces (P := l.prog) (w := w) (mg := mg) (base := base) (Cs := (mkCs Croom Cnotroom Cis_ Cisnot Csame Capart Cleast Cbelow Cto Cput Czero Crun Chalt)) (fun_mk (st := sLPieces) l31 c31 k31) (PySem.W.mg_of X G a31) lpiece
  have tryc := ok_tryc (P := l.prog) (w := w) (mg := mg) (base := base) (Cs := (mkCs Croom Cnotroom Cis_ Cisnot Csame Capart Cleast Cbelow Cto Cput Czero Crun Chalt)) (fun_mk (st := sLTryClause) l30 c30 k30) (PySem.W.mg_of X G a30) B CM YCB nCB
  have more := ok_more (P := l.prog) (w := w) (mg := mg) (base := base) (Cs := (mkCs Croom Cnotroom Cis_ Cisnot Csame Capart Cleast Cbelow Cto Cput Czero Crun Chalt)) (fun_mk (st := sLMore) l33 c33 k33) (PySem.W.mg_of X G a33) QCC MW GW bW MS GS bS YCB nCB
  have cis := ok_cis (P := l.prog) (w := w) (mg := mg) (base := base) (Cs := (mkCs Croom Cnotroom Cis_ Cisnot Csame Capart Cleast Cbelow Cto Cput Czero Crun Chalt)) (fun_mk (st := sLClauseIs) l32 c32 k32) (PySem.W.mg_of X G a32) T B QCC (PySem.W.mg_of X G mCC) PA GA bA lrow lwhole
  have splits := ok_splits (P := l.prog) (w := w) (mg := mg) (base := base) (Cs := (mkCs Croom Cnotroom Cis_ Cisnot Csame Capart Cleast Cbelow Cto Cput Czero Crun Chalt)) (fun_mk (st := sLSplits) l34 c34 k34) (PySem.W.mg_of X G a34) T B PM lpiece one few cword more cis
  have sE1 : ∀ H : Hp, IsSeq K H e1 [] := fun H => .wr H2 rfl fun H => .inr ⟨_, _, _, H2, rfl, rfl, Nat.zero_le _, .nil⟩
  have sE2 : ∀ H : Hp, IsSeq K H e2 [] := fun H => .wr H3 rfl fun H => .inr ⟨_, _, _, H3, rfl, rfl, Nat.zero_le _, .nil⟩
  have A : All8 l.prog w K mg base (mkCs Croom Cnotroom Cis_ Cisnot Csame Capart Cleast Cbelow Cto Cput Czero Crun Chalt) Cc Ch Bc Bh CC CB g39 g3 p0 g38 e1 e2 _ _ _ ds1 ds2 := { hand := hand, draw := draw, drawn := drawn, tryp := tryp, pright := pright, cparts := cparts, cword := cword, pieces := pieces, tryc := tryc, cis := cis, splits := splits, PF := lpiece, PC := PC, EM := EM, PM := PM, nsi := fun k => of_decide_eq_true (all13 w10 k), QX := QCC, M := CM, CE := CE, neC := uACC, nfc := uCC1, nfs := uCC2, kst := uCC3, PA := PA, GA := GA, bA := bA, b1 := b1v, r1 := r1v, b2 := b2v, r2 := r2v, s1 := sE1, s2 := sE2 }
  exact law_at (fun_mk (st := sLaw) l35 c35 k35) scLaw ⟨rfl, by decide, by decide⟩ (law_body T B A) (fun s v => .of_eq rfl) e0 hS hn
end Kx

set_option maxHeartbeats 8000000
namespace Kx

end Kx
set_option maxHeartbeats 8000000
namespace Kx
open PySem PySem.W PySem.Calls PyProof.Rows
abbrev hR : OpenRow := OpenLaw.row PySem.Challenge.rw_searchback_k08_pieces_and_clauses_made_a
abbrev hq : Program := view hR.prog [64]
def hnames0 : List PySem.Str := ["SearchError", "BadCondition", "BadChange", "BadClause", "LONGEST_LABEL", "is_whole", "is_label", "is_sequence", "GREATEST_NUMBER", "NO_SEATS", "MOST_CONDITIONS", "MOST_CHANGES", "is_seat_name", "Condition", "InRoom", "NotInRoom", "Is", "IsNot", "SamePerson", "Apart", "AtLeast", "Below", "Change", "ToRoom", "Put"]
def hnames1 : List PySem.Str := ["Zero", "Run", "Halt", "Clause", "_seat_fault", "_number_fault", "_check_conditions", "_check_changes", "_changed_by", "_law_mix", "_law_hand", "_law_draw", "_law_one", "_law_piece", "_law_letters", "_law_whole", "_law_label", "_law_thing", "_law_number", "_law_words", "_law_piece_word", "_law_try_piece", "_law_class", "_law_row", "_law_piece_right"]
def hnames2 : List PySem.Str := ["_law_drawn_piece", "_law_few", "_law_clause_parts", "_law_changed_thing", "_law_clause_word", "_law_try_clause", "_law_pieces", "_law_clause_is", "_law_more", "_law_splits"]
def hnames : List PySem.Str := hnames0 ++ hnames1 ++ hnames2

def kob (as : List Addr) (s : SharedT) : List (Option Obj) := as.map (HandSHeadRun.getT s)
set_option maxHeartbeats 0 in
theorem head_k (K : Params → Frag) (as : List Addr) (e : ∀ P, as = (K P).map (·.1)) (run : ∀ w, HandSHeadRun.RunEq hR hq (kHook K as e) (kob as) 12000 hnames w) (k1 : hR.wellSaid = true) (hw : hR.toRowW.promised)
    (call : WalkO hq hnames (XL hq []) (kHook K as e).says hR.toRowW (HandSHeadRun.topDef hR.prog 64) [] fun f vs => PySem.call f vs) : hR.Holds :=
  HandSHeadRun.head_any (r := hR) (q := hq) (H := kHook K as e) (ob := kob as) (M := 12000) (loose := hnames) (d := HandSHeadRun.topDef hR.prog 64) (kwd := []) (fun s => congrArg (fun g => as.map g) (funext (HandSHeadRun.getT_eq s)))
    (by kernel_rfl) (fun s => by kernel_rfl) run (by kernel_rfl) (by kernel_rfl) (by kernel_rfl) (by rfl) k1 (by decide +kernel) ⟨rfl, rfl, rfl, rfl, rfl, by decide +kernel⟩ hw call
end Kx
open PySem PySem.W PyProof.Rows
local macro_rules
  | `(tactic| o_head ($_:ident $K:term $a:term $e:term)) => `(tactic| refine Kx.head_k $K $a $e (fun w => (by intro os; kernel_rfl)) (by first | assumption | decide +kernel) ?hw ?hc)
set_option maxRecDepth 100000 in
set_option maxHeartbeats 0 in
theorem PySem.Challenge.cw_searchback_k08_pieces_and_clauses_made_a_holds : PySem.Challenge.rw_searchback_k08_pieces_and_clauses_made_a.Holds := by
  w_on; o_law; k_head; (case hw => w_witness2)
  k_fill
  refine Kx.law_walk (l := PySem.Challenge.rw_searchback_k08_pieces_and_clauses_made_a) rfl (by kernel_rfl) (fun w h Y => PySem.W.kIn_of Y) ?F
  case F =>
    intro w mg fa h KX G hmg0
    have hmg : mg ("law" : PySem.Str) = some (.ref fa) := by
      have e : (HandSHeadRun.topDef Kx.hR.prog 64).name = ("law" : PySem.Str) := by kernel_rfl
      rw [← e]
      exact hmg0
    refine' Kx.all_mk KX G hmg ?a0 ?l0 ?c0 ?k0 ?a1 ?l1 ?c1 ?k1 ?a2 ?l2 ?c2 ?k2 ?a3 ?l3 ?c3 ?k3 ?a4 ?l4 ?c4 ?k4 ?a5 ?l5 ?c5 ?k5 ?a6 ?l6 ?c6 ?k6 ?a7 ?l7 ?c7 ?k7 ?a8 ?l8 ?c8 ?k8 ?a9 ?l9 ?c9 ?k9 ?a10 ?l10 ?c10 ?k10 ?a11 ?l11 ?c11 ?k11 ?a12 ?l12 ?c12 ?k12 ?a13 ?l13 ?c13 ?k13 ?a14 ?l14 ?c14 ?k14 ?a15 ?l15 ?c15 ?k15 ?a16 ?l16 ?c16 ?k16 ?a17 ?l17 ?c17 ?k17 ?a18 ?l18 ?c18 ?k18 ?a19 ?l19 ?c19 ?k19 ?a20 ?l20 ?c20 ?k20 ?a21 ?l21 ?c21 ?k21 ?a22 ?l22 ?c22 ?k22 ?a23 ?l23 ?c23 ?k23 ?a24 ?l24 ?c24 ?k24 ?a25 ?l25 ?c25 ?k25 ?a26 ?l26 ?c26 ?k26 ?a27 ?l27 ?c27 ?k27 ?a28 ?l28 ?c28 ?k28 ?a29 ?l29 ?c29 ?k29 ?a30 ?l30 ?c30 ?k30 ?a31 ?l31 ?c31 ?k31 ?a32 ?l32 ?c32 ?k32 ?a33 ?l33 ?c33 ?k33 ?a34 ?l34 ?c34 ?k34 ?a35 ?l35 ?c35 ?k35 ?mCroom ?mCnotroom ?mCis_ ?mCisnot ?mCsame ?mCapart ?mCleast ?mCbelow ?mCto ?mCput ?mCzero ?mCrun ?mChalt ?mCC ?mCB ?mBc ?mBh ?mCS ?mCc ?mCh ?M0 ?L0 ?D0 ?N0 ?T0 ?M1 ?L1 ?D1 ?N1 ?T1 ?M2 ?L2 ?D2 ?N2 ?T2 ?M3 ?L3 ?D3 ?N3 ?T3 ?M4 ?L4 ?D4 ?N4 ?T4 ?M5 ?L5 ?D5 ?N5 ?T5 ?M6 ?L6 ?D6 ?N6 ?T6 ?M7 ?L7 ?D7 ?N7 ?T7 ?M8 ?L8 ?D8 ?N8 ?T8 ?M9 ?L9 ?D9 ?N9 ?T9 ?M10 ?L10 ?D10 ?N10 ?T10 ?M11 ?L11 ?D11 ?N11 ?T11 ?M12 ?L12 ?D12 ?N12 ?T12 ?M13 ?L13 ?D13 ?N13 ?T13 ?M14 ?L14 ?D14 ?N14 ?T14 ?M15 ?L15 ?D15 ?N15 ?T15 ?M16 ?L16 ?D16 ?N16 ?T16 ?M17 ?L17 ?D17 ?N17 ?T17 ?M18 ?L18 ?D18 ?N18 ?T18 ?M19 ?L19 ?D19 ?N19 ?T19 ?M20 ?L20 ?D20 ?N20 ?T20 ?M21 ?L21 ?D21 ?N21 ?T21 ?M22 ?L22 ?D22 ?N22 ?T22 ?M23 ?L23 ?D23 ?N23 ?T23 ?M24 ?L24 ?D24 ?N24 ?T24 ?M25 ?L25 ?D25 ?N25 ?T25 ?M26 ?L26 ?D26 ?N26 ?T26 ?M27 ?L27 ?D27 ?N27 ?T27 ?M28 ?L28 ?D28 ?N28 ?T28 ?M29 ?L29 ?D29 ?N29 ?T29 ?M30 ?L30 ?D30 ?N30 ?T30 ?M31 ?L31 ?D31 ?N31 ?T31 ?M32 ?L32 ?D32 ?N32 ?T32 ?M33 ?L33 ?D33 ?N33 ?T33 ?M34 ?L34 ?D34 ?N34 ?T34 ?M35 ?L35 ?D35 ?N35 ?T35 ?M36 ?L36 ?D36 ?N36 ?T36 ?M37 ?L37 ?D37 ?N37 ?T37 ?P0a ?P0b ?P0c ?P0d ?L38 ?D38 ?N38 ?M39 ?L39 ?D39 ?N39 ?T39 ?H1 ?A1 ?A2 ?H2 ?H3 ?u1Croom ?u2Croom ?u3Croom ?u4Croom ?u5Croom_room ?u6Croom ?u7Croom ?u8Croom ?u9Croom ?uACroom ?u1Cnotroom ?u2Cnotroom ?u3Cnotroom ?u4Cnotroom ?u5Cnotroom_room ?u6Cnotroom ?u7Cnotroom ?u8Cnotroom ?u9Cnotroom ?uACnotroom ?u1Cis_ ?u2Cis_ ?u3Cis_ ?u4Cis_ ?u5Cis__seat ?u5Cis__what ?u6Cis_ ?u7Cis_ ?u8Cis_ ?u9Cis_ ?uACis_ ?u1Cisnot ?u2Cisnot ?u3Cisnot ?u4Cisnot ?u5Cisnot_seat ?u5Cisnot_what ?u6Cisnot ?u7Cisnot ?u8Cisnot ?u9Cisnot ?uACisnot ?u1Csame ?u2Csame ?u3Csame ?u4Csame ?u6Csame ?u7Csame ?u8Csame ?u9Csame ?uACsame ?uBCsame ?u1Capart ?u2Capart ?u3Capart ?u4Capart ?u6Capart ?u7Capart ?u8Capart ?u9Capart ?uACapart ?uBCapart ?u1Cleast ?u2Cleast ?u3Cleast ?u4Cleast ?u5Cleast_clock ?u5Cleast_number ?u6Cleast ?u7Cleast ?u8Cleast ?u9Cleast ?uACleast ?u1Cbelow ?u2Cbelow ?u3Cbelow ?u4Cbelow ?u5Cbelow_clock ?u5Cbelow_number ?u6Cbelow ?u7Cbelow ?u8Cbelow ?u9Cbelow ?uACbelow ?u1Cto ?u2Cto ?u3Cto ?u4Cto ?u5Cto_room ?u6Cto ?u7Cto ?u8Cto ?u9Cto ?uACto ?u1Cput ?u2Cput ?u3Cput ?u4Cput ?u5Cput_seat ?u5Cput_what ?u6Cput ?u7Cput ?u8Cput ?u9Cput ?uACput ?u1Czero ?u2Czero ?u3Czero ?u4Czero ?u5Czero_clock ?u6Czero ?u7Czero ?u8Czero ?u9Czero ?uACzero ?u1Crun ?u2Crun ?u3Crun ?u4Crun ?u5Crun_clock ?u6Crun ?u7Crun ?u8Crun ?u9Crun ?uACrun ?u1Chalt ?u2Chalt ?u3Chalt ?u4Chalt ?u5Chalt_clock ?u6Chalt ?u7Chalt ?u8Chalt ?u9Chalt ?uAChalt ?u1CC ?u2CC ?u3CC ?u4CC ?u5CC_kind ?u5CC_conditions ?u5CC_changes ?u6CC ?u7CC ?u8CC ?u9CC ?uACC ?uCC1 ?uCC2 ?uCC3 ?w1 ?w2 ?w3 ?w4 ?w5 ?w6 ?w7 ?w8 ?w9 ?w10 ?q1 ?q2 ?nBc ?xBc ?yBc ?wSBc ?wOBc ?nBh ?xBh ?yBh ?wSBh ?wOBh ?nCB ?xCB ?yCB ?wSCB ?wOCB ?nCBi ?y2 ?y3 ?y4 ?y5 ?o1Bc ?o2Bc ?o3Bc ?o4Bc ?o5Bc ?o6Bc ?o7Bc ?o8Bc ?o9Bc ?oABc ?o1Bh ?o2Bh ?o3Bh ?o4Bh ?o5Bh ?o6Bh ?o7Bh ?o8Bh ?o9Bh ?oABh ?o1CB ?o2CB ?o3CB ?o4CB ?o5CB ?o6CB ?o7CB ?o8CB ?o9CB ?oACB ?z_int ?z_abs ?z_len ?z_enumerate ?z_range ?z_isinstance ?z_str ?z_bool ?z_list ?z_tuple
    (case a0 => first | k_is | exact rfl | kernel_rfl | decide +kernel)
    (case l0 => first | k_is | exact rfl | kernel_rfl | decide +kernel)
    (case c0 => first | k_is | exact rfl | kernel_rfl | decide +kernel)
    (case k0 => first | k_is | exact rfl | kernel_rfl | decide +kernel)
    (case a1 => first | k_is | exact rfl | kernel_rfl | decide +kernel)
    (case l1 => first | k_is | exact rfl | kernel_rfl | decide +kernel)
    (case c1 => first | k_is | exact rfl | kernel_rfl | decide +kernel)
    (case k1 => first | k_is | exact rfl | kernel_rfl | decide +kernel)
    (case a2 => first | k_is | exact rfl | kernel_rfl | decide +kernel)
    (case l2 => first | k_is | exact rfl | kernel_rfl | decide +kernel)
    (case c2 => first | k_is | exact rfl | kernel_rfl | decide +kernel)
    (case k2 => first | k_is | exact rfl | kernel_rfl | decide +kernel)
    (case a3 => first | k_is | exact rfl | kernel_rfl | decide +kernel)
    (case l3 => first | k_is | exact rfl | kernel_rfl | decide +kernel)
    (case c3 => first | k_is | exact rfl | kernel_rfl | decide +kernel)
    (case k3 => first | k_is | exact rfl | kernel_rfl | decide +kernel)
    (case a4 => first | k_is | exact rfl | kernel_rfl | decide +kernel)
    (case l4 => first | k_is | exact rfl | kernel_rfl | decide +kernel)
    (case c4 => first | k_is | exact rfl | kernel_rfl | decide +kernel)
    (case k4 => first | k_is | exact rfl | kernel_rfl | decide +kernel)
    (case a5 => first | k_is | exact rfl | kernel_rfl | decide +kernel)
    (case l5 => first | k_is | exact rfl | kernel_rfl | decide +kernel)
    (case c5 => first | k_is | exact rfl | kernel_rfl | decide +kernel)
    (case k5 => first | k_is | exact rfl | kernel_rfl | decide +kernel)
    (case a6 => first | k_is | exact rfl | kernel_rfl | decide +kernel)
    (case l6 => first | k_is | exact rfl | kernel_rfl | decide +kernel)
    (case c6 => first | k_is | exact rfl | kernel_rfl | decide +kernel)
    (case k6 => first | k_is | exact rfl | kernel_rfl | decide +kernel)
    (case a7 => first | k_is | exact rfl | kernel_rfl | decide +kernel)
    (case l7 => first | k_is | exact rfl | kernel_rfl | decide +kernel)
    (case c7 => first | k_is | exact rfl | kernel_rfl | decide +kernel)
    (case k7 => first | k_is | exact rfl | kernel_rfl | decide +kernel)
    (case a8 => first | k_is | exact rfl | kernel_rfl | decide +kernel)
    (case l8 => first | k_is | exact rfl | kernel_rfl | decide +kernel)
    (case c8 => first | k_is | exact rfl | kernel_rfl | decide +kernel)
    (case k8 => first | k_is | exact rfl | kernel_rfl | decide +kernel)
    (case a9 => first | k_is | exact rfl | kernel_rfl | decide +kernel)
    (case l9 => first | k_is | exact rfl | kernel_rfl | decide +kernel)
    (case c9 => first | k_is | exact rfl | kernel_rfl | decide +kernel)
    (case k9 => first | k_is | exact rfl | kernel_rfl | decide +kernel)
    (case a10 => first | k_is | exact rfl | kernel_rfl | decide +kernel)
    (case l10 => first | k_is | exact rfl | kernel_rfl | decide +kernel)
    (case c10 => first | k_is | exact rfl | kernel_rfl | decide +kernel)
    (case k10 => first | k_is | exact rfl | kernel_rfl | decide +kernel)
    (case a11 => first | k_is | exact rfl | kernel_rfl | decide +kernel)
    (case l11 => first | k_is | exact rfl | kernel_rfl | decide +kernel)
    (case c11 => first | k_is | exact rfl | kernel_rfl | decide +kernel)
    (case k11 => first | k_is | exact rfl | kernel_rfl | decide +kernel)
    (case a12 => first | k_is | exact rfl | kernel_rfl | decide +kernel)
    (case l12 => first | k_is | exact rfl | kernel_rfl | decide +kernel)
    (case c12 => first | k_is | exact rfl | kernel_rfl | decide +kernel)
    (case k12 => first | k_is | exact rfl | kernel_rfl | decide +kernel)
    (case a13 => first | k_is | exact rfl | kernel_rfl | decide +kernel)
    (case l13 => first | k_is | exact rfl | kernel_rfl | decide +kernel)
    (case c13 => first | k_is | exact rfl | kernel_rfl | decide +kernel)
    (case k13 => first | k_is | exact rfl | kernel_rfl | decide +kernel)
    (case a14 => first | k_is | exact rfl | kernel_rfl | decide +kernel)
    (case l14 => first | k_is | exact rfl | kernel_rfl | decide +kernel)
    (case c14 => first | k_is | exact rfl | kernel_rfl | decide +kernel)
    (case k14 => first | k_is | exact rfl | kernel_rfl | decide +kernel)
    (case a15 => first | k_is | exact rfl | kernel_rfl | decide +kernel)
    (case l15 => first | k_is | exact rfl | kernel_rfl | decide +kernel)
    (case c15 => first | k_is | exact rfl | kernel_rfl | decide +kernel)
    (case k15 => first | k_is | exact rfl | kernel_rfl | decide +kernel)
    (case a16 => first | k_is | exact rfl | kernel_rfl | decide +kernel)
    (case l16 => first | k_is | exact rfl | kernel_rfl | decide +kernel)
    (case c16 => first | k_is | exact rfl | kernel_rfl | decide +kernel)
    (case k16 => first | k_is | exact rfl | kernel_rfl | decide +kernel)
    (case a17 => first | k_is | exact rfl | kernel_rfl | decide +kernel)
    (case l17 => first | k_is | exact rfl | kernel_rfl | decide +kernel)
    (case c17 => first | k_is | exact rfl | kernel_rfl | decide +kernel)
    (case k17 => first | k_is | exact rfl | kernel_rfl | decide +kernel)
    (case a18 => first | k_is | exact rfl | kernel_rfl | decide +kernel)
    (case l18 => first | k_is | exact rfl | kernel_rfl | decide +kernel)
    (case c18 => first | k_is | exact rfl | kernel_rfl | decide +kernel)
    (case k18 => first | k_is | exact rfl | kernel_rfl | decide +kernel)
    (case a19 => first | k_is | exact rfl | kernel_rfl | decide +kernel)
    (case l19 => first | k_is | exact rfl | kernel_rfl | decide +kernel)
    (case c19 => first | k_is | exact rfl | kernel_rfl | decide +kernel)
    (case k19 => first | k_is | exact rfl | kernel_rfl | decide +kernel)
    (case a20 => first | k_is | exact rfl | kernel_rfl | decide +kernel)
    (case l20 => first | k_is | exact rfl | kernel_rfl | decide +kernel)
    (case c20 => first | k_is | exact rfl | kernel_rfl | decide +kernel)
    (case k20 => first | k_is | exact rfl | kernel_rfl | decide +kernel)
    (case a21 => first | k_is | exact rfl | kernel_rfl | decide +kernel)
    (case l21 => first | k_is | exact rfl | kernel_rfl | decide +kernel)
    (case c21 => first | k_is | exact rfl | kernel_rfl | decide +kernel)
    (case k21 => first | k_is | exact rfl | kernel_rfl | decide +kernel)
    (case a22 => first | k_is | exact rfl | kernel_rfl | decide +kernel)
    (case l22 => first | k_is | exact rfl | kernel_rfl | decide +kernel)
    (case c22 => first | k_is | exact rfl | kernel_rfl | decide +kernel)
    (case k22 => first | k_is | exact rfl | kernel_rfl | decide +kernel)
    (case a23 => first | k_is | exact rfl | kernel_rfl | decide +kernel)
    (case l23 => first | k_is | exact rfl | kernel_rfl | decide +kernel)
    (case c23 => first | k_is | exact rfl | kernel_rfl | decide +kernel)
    (case k23 => first | k_is | exact rfl | kernel_rfl | decide +kernel)
    (case a24 => first | k_is | exact rfl | kernel_rfl | decide +kernel)
    (case l24 => first | k_is | exact rfl | kernel_rfl | decide +kernel)
    (case c24 => first | k_is | exact rfl | kernel_rfl | decide +kernel)
    (case k24 => first | k_is | exact rfl | kernel_rfl | decide +kernel)
    (case a25 => first | k_is | exact rfl | kernel_rfl | decide +kernel)
    (case l25 => first | k_is | exact rfl | kernel_rfl | decide +kernel)
    (case c25 => first | k_is | exact rfl | kernel_rfl | decide +kernel)
    (case k25 => first | k_is | exact rfl | kernel_rfl | decide +kernel)
    (case a26 => first | k_is | exact rfl | kernel_rfl | decide +kernel)
    (case l26 => first | k_is | exact rfl | kernel_rfl | decide +kernel)
    (case c26 => first | k_is | exact rfl | kernel_rfl | decide +kernel)
    (case k26 => first | k_is | exact rfl | kernel_rfl | decide +kernel)
    (case a27 => first | k_is | exact rfl | kernel_rfl | decide +kernel)
    (case l27 => first | k_is | exact rfl | kernel_rfl | decide +kernel)
    (case c27 => first | k_is | exact rfl | kernel_rfl | decide +kernel)
    (case k27 => first | k_is | exact rfl | kernel_rfl | decide +kernel)
    (case a28 => first | k_is | exact rfl | kernel_rfl | decide +kernel)
    (case l28 => first | k_is | exact rfl | kernel_rfl | decide +kernel)
    (case c28 => first | k_is | exact rfl | kernel_rfl | decide +kernel)
    (case k28 => first | k_is | exact rfl | kernel_rfl | decide +kernel)
    (case a29 => first | k_is | exact rfl | kernel_rfl | decide +kernel)
    (case l29 => first | k_is | exact rfl | kernel_rfl | decide +kernel)
    (case c29 => first | k_is | exact rfl | kernel_rfl | decide +kernel)
    (case k29 => first | k_is | exact rfl | kernel_rfl | decide +kernel)
    (case a30 => first | k_is | exact rfl | kernel_rfl | decide +kernel)
    (case l30 => first | k_is | exact rfl | kernel_rfl | decide +kernel)
    (case c30 => first | k_is | exact rfl | kernel_rfl | decide +kernel)
    (case k30 => first | k_is | exact rfl | kernel_rfl | decide +kernel)
    (case a31 => first | k_is | exact rfl | kernel_rfl | decide +kernel)
    (case l31 => first | k_is | exact rfl | kernel_rfl | decide +kernel)
    (case c31 => first | k_is | exact rfl | kernel_rfl | decide +kernel)
    (case k31 => first | k_is | exact rfl | kernel_rfl | decide +kernel)
    (case a32 => first | k_is | exact rfl | kernel_rfl | decide +kernel)
    (case l32 => first | k_is | exact rfl | kernel_rfl | decide +kernel)
    (case c32 => first | k_is | exact rfl | kernel_rfl | decide +kernel)
    (case k32 => first | k_is | exact rfl | kernel_rfl | decide +kernel)
    (case a33 => first | k_is | exact rfl | kernel_rfl | decide +kernel)
    (case l33 => first | k_is | exact rfl | kernel_rfl | decide +kernel)
    (case c33 => first | k_is | exact rfl | kernel_rfl | decide +kernel)
    (case k33 => first | k_is | exact rfl | kernel_rfl | decide +kernel)
    (case a34 => first | k_is | exact rfl | kernel_rfl | decide +kernel)
    (case l34 => first | k_is | exact rfl | kernel_rfl | decide +kernel)
    (case c34 => first | k_is | exact rfl | kernel_rfl | decide +kernel)
    (case k34 => first | k_is | exact rfl | kernel_rfl | decide +kernel)
    (case a35 => first | k_is | exact rfl | kernel_rfl | decide +kernel)
    (case l35 => first | k_is | exact rfl | kernel_rfl | decide +kernel)
    (case c35 => first | k_is | exact rfl | kernel_rfl | decide +kernel)
    (case k35 => first | k_is | exact rfl | kernel_rfl | decide +kernel)
    (case mCroom => first | k_is | exact rfl | kernel_rfl | decide +kernel)
    (case mCnotroom => first | k_is | exact rfl | kernel_rfl | decide +kernel)
    (case mCis_ => first | k_is | exact rfl | kernel_rfl | decide +kernel)
    (case mCisnot => first | k_is | exact rfl | kernel_rfl | decide +kernel)
    (case mCsame => first | k_is | exact rfl | kernel_rfl | decide +kernel)
    (case mCapart => first | k_is | exact rfl | kernel_rfl | decide +kernel)
    (case mCleast => first | k_is | exact rfl | kernel_rfl | decide +kernel)
    (case mCbelow => first | k_is | exact rfl | kernel_rfl | decide +kernel)
    (case mCto => first | k_is | exact rfl | kernel_rfl | decide +kernel)
    (case mCput => first | k_is | exact rfl | kernel_rfl | decide +kernel)
    (case mCzero => first | k_is | exact rfl | kernel_rfl | decide +kernel)
    (case mCrun => first | k_is | exact rfl | kernel_rfl | decide +kernel)
    (case mChalt => first | k_is | exact rfl | kernel_rfl | decide +kernel)
    (case mCC => first | k_is | exact rfl | kernel_rfl | decide +kernel)
    (case mCB => first | k_is | exact rfl | kernel_rfl | decide +kernel)
    (case mBc => first | k_is | exact rfl | kernel_rfl | decide +kernel)
    (case mBh => first | k_is | exact rfl | kernel_rfl | decide +kernel)
    (case mCS => first | k_is | exact rfl | kernel_rfl | decide +kernel)
    (case mCc => first | k_is | exact rfl | kernel_rfl | decide +kernel)
    (case mCh => first | k_is | exact rfl | kernel_rfl | decide +kernel)
    (case M0 => first | k_is | exact rfl | kernel_rfl | decide +kernel)
    (case L0 => first | k_is | exact rfl | kernel_rfl | decide +kernel)
    (case D0 => first | k_is | exact rfl | kernel_rfl | decide +kernel)
    (case N0 => first | k_is | exact rfl | kernel_rfl | decide +kernel)
    (case T0 => first | k_is | exact rfl | kernel_rfl | decide +kernel)
    (case M1 => first | k_is | exact rfl | kernel_rfl | decide +kernel)
    (case L1 => first | k_is | exact rfl | kernel_rfl | decide +kernel)
    (case D1 => first | k_is | exact rfl | kernel_rfl | decide +kernel)
    (case N1 => first | k_is | exact rfl | kernel_rfl | decide +kernel)
    (case T1 => first | k_is | exact rfl | kernel_rfl | decide +kernel)
    (case M2 => first | k_is | exact rfl | kernel_rfl | decide +kernel)
    (case L2 => first | k_is | exact rfl | kernel_rfl | decide +kernel)
    (case D2 => first | k_is | exact rfl | kernel_rfl | decide +kernel)
    (case N2 => first | k_is | exact rfl | kernel_rfl | decide +kernel)
    (case T2 => first | k_is | exact rfl | kernel_rfl | decide +kernel)
    (case M3 => first | k_is | exact rfl | kernel_rfl | decide +kernel)
    (case L3 => first | k_is | exact rfl | kernel_rfl | decide +kernel)
    (case D3 => first | k_is | exact rfl | kernel_rfl | decide +kernel)
    (case N3 => first | k_is | exact rfl | kernel_rfl | decide +kernel)
    (case T3 => first | k_is | exact rfl | kernel_rfl | decide +kernel)
    (case M4 => first | k_is | exact rfl | kernel_rfl | decide +kernel)
    (case L4 => first | k_is | exact rfl | kernel_rfl | decide +kernel)
    (case D4 => first | k_is | exact rfl | kernel_rfl | decide +kernel)
    (case N4 => first | k_is | exact rfl | kernel_rfl | decide +kernel)
    (case T4 => first | k_is | exact rfl | kernel_rfl | decide +kernel)
    (case M5 => first | k_is | exact rfl | kernel_rfl | decide +kernel)
    (case L5 => first | k_is | exact rfl | kernel_rfl | decide +kernel)
    (case D5 => first | k_is | exact rfl | kernel_rfl | decide +kernel)
    (case N5 => first | k_is | exact rfl | kernel_rfl | decide +kernel)
    (case T5 => first | k_is | exact rfl | kernel_rfl | decide +kernel)
    (case M6 => first | k_is | exact rfl | kernel_rfl | decide +kernel)
    (case L6 => first | k_is | exact rfl | kernel_rfl | decide +kernel)
    (case D6 => first | k_is | exact rfl | kernel_rfl | decide +kernel)
    (case N6 => first | k_is | exact rfl | kernel_rfl | decide +kernel)
    (case T6 => first | k_is | exact rfl | kernel_rfl | decide +kernel)
    (case M7 => first | k_is | exact rfl | kernel_rfl | decide +kernel)
    (case L7 => first | k_is | exact rfl | kernel_rfl | decide +kernel)
    (case D7 => first | k_is | exact rfl | kernel_rfl | decide +kernel)
    (case N7 => first | k_is | exact rfl | kernel_rfl | decide +kernel)
    (case T7 => first | k_is | exact rfl | kernel_rfl | decide +kernel)
    (case M8 => first | k_is | exact rfl | kernel_rfl | decide +kernel)
    (case L8 => first | k_is | exact rfl | kernel_rfl | decide +kernel)
    (case D8 => first | k_is | exact rfl | kernel_rfl | decide +kernel)
    (case N8 => first | k_is | exact rfl | kernel_rfl | decide +kernel)
    (case T8 => first | k_is | exact rfl | kernel_rfl | decide +kernel)
    (case M9 => first | k_is | exact rfl | kernel_rfl | decide +kernel)
    (case L9 => first | k_is | exact rfl | kernel_rfl | decide +kernel)
    (case D9 => first | k_is | exact rfl | kernel_rfl | decide +kernel)
    (case N9 => first | k_is | exact rfl | kernel_rfl | decide +kernel)
    (case T9 => first | k_is | exact rfl | kernel_rfl | decide +kernel)
    (case M10 => first | k_is | exact rfl | kernel_rfl | decide +kernel)
    (case L10 => first | k_is | exact rfl | kernel_rfl | decide +kernel)
    (case D10 => first | k_is | exact rfl | kernel_rfl | decide +kernel)
    (case N10 => first | k_is | exact rfl | kernel_rfl | decide +kernel)
    (case T10 => first | k_is | exact rfl | kernel_rfl | decide +kernel)
    (case M11 => first | k_is | exact rfl | kernel_rfl | decide +kernel)
    (case L11 => first | k_is | exact rfl | kernel_rfl | decide +kernel)
    (case D11 => first | k_is | exact rfl | kernel_rfl | decide +kernel)
    (case N11 => first | k_is | exact rfl | kernel_rfl | decide +kernel)
    (case T11 => first | k_is | exact rfl | kernel_rfl | decide +kernel)
    (case M12 => first | k_is | exact rfl | kernel_rfl | decide +kernel)
    (case L12 => first | k_is | exact rfl | kernel_rfl | decide +kernel)
    (case D12 => first | k_is | exact rfl | kernel_rfl | decide +kernel)
    (case N12 => first | k_is | exact rfl | kernel_rfl | decide +kernel)
    (case T12 => first | k_is | exact rfl | kernel_rfl | decide +kernel)
    (case M13 => first | k_is | exact rfl | kernel_rfl | decide +kernel)
    (case L13 => first | k_is | exact rfl | kernel_rfl | decide +kernel)
    (case D13 => first | k_is | exact rfl | kernel_rfl | decide +kernel)
    (case N13 => first | k_is | exact rfl | kernel_rfl | decide +kernel)
    (case T13 => first | k_is | exact rfl | kernel_rfl | decide +kernel)
    (case M14 => first | k_is | exact rfl | kernel_rfl | decide +kernel)
    (case L14 => first | k_is | exact rfl | kernel_rfl | decide +kernel)
    (case D14 => first | k_is | exact rfl | kernel_rfl | decide +kernel)
    (case N14 => first | k_is | exact rfl | kernel_rfl | decide +kernel)
    (case T14 => first | k_is | exact rfl | kernel_rfl | decide +kernel)
    (case M15 => first | k_is | exact rfl | kernel_rfl | decide +kernel)
    (case L15 => first | k_is | exact rfl | kernel_rfl | decide +kernel)
    (case D15 => first | k_is | exact rfl | kernel_rfl | decide +kernel)
    (case N15 => first | k_is | exact rfl | kernel_rfl | decide +kernel)
    (case T15 => first | k_is | exact rfl | kernel_rfl | decide +kernel)
    (case M16 => first | k_is | exact rfl | kernel_rfl | decide +kernel)
    (case L16 => first | k_is | exact rfl | kernel_rfl | decide +kernel)
    (case D16 => first | k_is | exact rfl | kernel_rfl | decide +kernel)
    (case N16 => first | k_is | exact rfl | kernel_rfl | decide +kernel)
    (case T16 => first | k_is | exact rfl | kernel_rfl | decide +kernel)
    (case M17 => first | k_is | exact rfl | kernel_rfl | decide +kernel)
    (case L17 => first | k_is | exact rfl | kernel_rfl | decide +kernel)
    (case D17 => first | k_is | exact rfl | kernel_rfl | decide +kernel)
    (case N17 => first | k_is | exact rfl | kernel_rfl | decide +kernel)
    (case T17 => first | k_is | exact rfl | kernel_rfl | decide +kernel)
    (case M18 => first | k_is | exact rfl | kernel_rfl | decide +kernel)
    (case L18 => first | k_is | exact rfl | kernel_rfl | decide +kernel)
    (case D18 => first | k_is | exact rfl | kernel_rfl | decide +kernel)
    (case N18 => first | k_is | exact rfl | kernel_rfl | decide +kernel)
    (case T18 => first | k_is | exact rfl | kernel_rfl | decide +kernel)
    (case M19 => first | k_is | exact rfl | kernel_rfl | decide +kernel)
    (case L19 => first | k_is | exact rfl | kernel_rfl | decide +kernel)
    (case D19 => first | k_is | exact rfl | kernel_rfl | decide +kernel)
    (case N19 => first | k_is | exact rfl | kernel_rfl | decide +kernel)
    (case T19 => first | k_is | exact rfl | kernel_rfl | decide +kernel)
    (case M20 => first | k_is | exact rfl | kernel_rfl | decide +kernel)
    (case L20 => first | k_is | exact rfl | kernel_rfl | decide +kernel)
    (case D20 => first | k_is | exact rfl | kernel_rfl | decide +kernel)
    (case N20 => first | k_is | exact rfl | kernel_rfl | decide +kernel)
    (case T20 => first | k_is | exact rfl | kernel_rfl | decide +kernel)
    (case M21 => first | k_is | exact rfl | kernel_rfl | decide +kernel)
    (case L21 => first | k_is | exact rfl | kernel_rfl | decide +kernel)
    (case D21 => first | k_is | exact rfl | kernel_rfl | decide +kernel)
    (case N21 => first | k_is | exact rfl | kernel_rfl | decide +kernel)
    (case T21 => first | k_is | exact rfl | kernel_rfl | decide +kernel)
    (case M22 => first | k_is | exact rfl | kernel_rfl | decide +kernel)
    (case L22 => first | k_is | exact rfl | kernel_rfl | decide +kernel)
    (case D22 => first | k_is | exact rfl | kernel_rfl | decide +kernel)
    (case N22 => first | k_is | exact rfl | kernel_rfl | decide +kernel)
    (case T22 => first | k_is | exact rfl | kernel_rfl | decide +kernel)
    (case M23 => first | k_is | exact rfl | kernel_rfl | decide +kernel)
    (case L23 => first | k_is | exact rfl | kernel_rfl | decide +kernel)
    (case D23 => first | k_is | exact rfl | kernel_rfl | decide +kernel)
    (case N23 => first | k_is | exact rfl | kernel_rfl | decide +kernel)
    (case T23 => first | k_is | exact rfl | kernel_rfl | decide +kernel)
    (case M24 => first | k_is | exact rfl | kernel_rfl | decide +kernel)
    (case L24 => first | k_is | exact rfl | kernel_rfl | decide +kernel)
    (case D24 => first | k_is | exact rfl | kernel_rfl | decide +kernel)
    (case N24 => first | k_is | exact rfl | kernel_rfl | decide +kernel)
    (case T24 => first | k_is | exact rfl | kernel_rfl | decide +kernel)
    (case M25 => first | k_is | exact rfl | kernel_rfl | decide +kernel)
    (case L25 => first | k_is | exact rfl | kernel_rfl | decide +kernel)
    (case D25 => first | k_is | exact rfl | kernel_rfl | decide +kernel)
    (case N25 => first | k_is | exact rfl | kernel_rfl | decide +kernel)
    (case T25 => first | k_is | exact rfl | kernel_rfl | decide +kernel)
    (case M26 => first | k_is | exact rfl | kernel_rfl | decide +kernel)
    (case L26 => first | k_is | exact rfl | kernel_rfl | decide +kernel)
    (case D26 => first | k_is | exact rfl | kernel_rfl | decide +kernel)
    (case N26 => first | k_is | exact rfl | kernel_rfl | decide +kernel)
    (case T26 => first | k_is | exact rfl | kernel_rfl | decide +kernel)
    (case M27 => first | k_is | exact rfl | kernel_rfl | decide +kernel)
    (case L27 => first | k_is | exact rfl | kernel_rfl | decide +kernel)
    (case D27 => first | k_is | exact rfl | kernel_rfl | decide +kernel)
    (case N27 => first | k_is | exact rfl | kernel_rfl | decide +kernel)
    (case T27 => first | k_is | exact rfl | kernel_rfl | decide +kernel)
    (case M28 => first | k_is | exact rfl | kernel_rfl | decide +kernel)
    (case L28 => first | k_is | exact rfl | kernel_rfl | decide +kernel)
    (case D28 => first | k_is | exact rfl | kernel_rfl | decide +kernel)
    (case N28 => first | k_is | exact rfl | kernel_rfl | decide +kernel)
    (case T28 => first | k_is | exact rfl | kernel_rfl | decide +kernel)
    (case M29 => first | k_is | exact rfl | kernel_rfl | decide +kernel)
    (case L29 => first | k_is | exact rfl | kernel_rfl | decide +kernel)
    (case D29 => first | k_is | exact rfl | kernel_rfl | decide +kernel)
    (case N29 => first | k_is | exact rfl | kernel_rfl | decide +kernel)
    (case T29 => first | k_is | exact rfl | kernel_rfl | decide +kernel)
    (case M30 => first | k_is | exact rfl | kernel_rfl | decide +kernel)
    (case L30 => first | k_is | exact rfl | kernel_rfl | decide +kernel)
    (case D30 => first | k_is | exact rfl | kernel_rfl | decide +kernel)
    (case N30 => first | k_is | exact rfl | kernel_rfl | decide +kernel)
    (case T30 => first | k_is | exact rfl | kernel_rfl | decide +kernel)
    (case M31 => first | k_is | exact rfl | kernel_rfl | decide +kernel)
    (case L31 => first | k_is | exact rfl | kernel_rfl | decide +kernel)
    (case D31 => first | k_is | exact rfl | kernel_rfl | decide +kernel)
    (case N31 => first | k_is | exact rfl | kernel_rfl | decide +kernel)
    (case T31 => first | k_is | exact rfl | kernel_rfl | decide +kernel)
    (case M32 => first | k_is | exact rfl | kernel_rfl | decide +kernel)
    (case L32 => first | k_is | exact rfl | kernel_rfl | decide +kernel)
    (case D32 => first | k_is | exact rfl | kernel_rfl | decide +kernel)
    (case N32 => first | k_is | exact rfl | kernel_rfl | decide +kernel)
    (case T32 => first | k_is | exact rfl | kernel_rfl | decide +kernel)
    (case M33 => first | k_is | exact rfl | kernel_rfl | decide +kernel)
    (case L33 => first | k_is | exact rfl | kernel_rfl | decide +kernel)
    (case D33 => first | k_is | exact rfl | kernel_rfl | decide +kernel)
    (case N33 => first | k_is | exact rfl | kernel_rfl | decide +kernel)
    (case T33 => first | k_is | exact rfl | kernel_rfl | decide +kernel)
    (case M34 => first | k_is | exact rfl | kernel_rfl | decide +kernel)
    (case L34 => first | k_is | exact rfl | kernel_rfl | decide +kernel)
    (case D34 => first | k_is | exact rfl | kernel_rfl | decide +kernel)
    (case N34 => first | k_is | exact rfl | kernel_rfl | decide +kernel)
    (case T34 => first | k_is | exact rfl | kernel_rfl | decide +kernel)
    (case M35 => first | k_is | exact rfl | kernel_rfl | decide +kernel)
    (case L35 => first | k_is | exact rfl | kernel_rfl | decide +kernel)
    (case D35 => first | k_is | exact rfl | kernel_rfl | decide +kernel)
    (case N35 => first | k_is | exact rfl | kernel_rfl | decide +kernel)
    (case T35 => first | k_is | exact rfl | kernel_rfl | decide +kernel)
    (case M36 => first | k_is | exact rfl | kernel_rfl | decide +kernel)
    (case L36 => first | k_is | exact rfl | kernel_rfl | decide +kernel)
    (case D36 => first | k_is | exact rfl | kernel_rfl | decide +kernel)
    (case N36 => first | k_is | exact rfl | kernel_rfl | decide +kernel)
    (case T36 => first | k_is | exact rfl | kernel_rfl | decide +kernel)
    (case M37 => first | k_is | exact rfl | kernel_rfl | decide +kernel)
    (case L37 => first | k_is | exact rfl | kernel_rfl | decide +kernel)
    (case D37 => first | k_is | exact rfl | kernel_rfl | decide +kernel)
    (case N37 => first | k_is | exact rfl | kernel_rfl | decide +kernel)
    (case T37 => first | k_is | exact rfl | kernel_rfl | decide +kernel)
    (case P0a => first | k_is | exact rfl | kernel_rfl | decide +kernel)
    (case P0b => first | k_is | exact rfl | kernel_rfl | decide +kernel)
    (case P0c => first | k_is | exact rfl | kernel_rfl | decide +kernel)
    (case P0d => first | k_is | exact rfl | kernel_rfl | decide +kernel)
    (case L38 => first | k_is | exact rfl | kernel_rfl | decide +kernel)
    (case D38 => first | k_is | exact rfl | kernel_rfl | decide +kernel)
    (case N38 => first | k_is | exact rfl | kernel_rfl | decide +kernel)
    (case M39 => first | k_is | exact rfl | kernel_rfl | decide +kernel)
    (case L39 => first | k_is | exact rfl | kernel_rfl | decide +kernel)
    (case D39 => first | k_is | exact rfl | kernel_rfl | decide +kernel)
    (case N39 => first | k_is | exact rfl | kernel_rfl | decide +kernel)
    (case T39 => first | k_is | exact rfl | kernel_rfl | decide +kernel)
    (case H1 => first | k_is | exact rfl | kernel_rfl | decide +kernel)
    (case A1 => first | k_is | exact rfl | kernel_rfl | decide +kernel)
    (case A2 => first | k_is | exact rfl | kernel_rfl | decide +kernel)
    (case H2 => first | k_is | exact rfl | kernel_rfl | decide +kernel)
    (case H3 => first | k_is | exact rfl | kernel_rfl | decide +kernel)
    (case u1Croom => first | k_is | exact rfl | kernel_rfl | decide +kernel)
    (case u2Croom => first | k_is | exact rfl | kernel_rfl | decide +kernel)
    (case u3Croom => first | k_is | exact rfl | kernel_rfl | decide +kernel)
    (case u4Croom => first | k_is | exact rfl | kernel_rfl | decide +kernel)
    (case u5Croom_room => first | k_is | exact rfl | kernel_rfl | decide +kernel)
    (case u6Croom => first | k_is | exact rfl | kernel_rfl | decide +kernel)
    (case u7Croom => first | k_is | exact rfl | kernel_rfl | decide +kernel)
    (case u8Croom => first | k_is | exact rfl | kernel_rfl | decide +kernel)
    (case u9Croom => first | k_is | exact rfl | kernel_rfl | decide +kernel)
    (case uACroom => first | k_is | exact rfl | kernel_rfl | decide +kernel)
    (case u1Cnotroom => first | k_is | exact rfl | kernel_rfl | decide +kernel)
    (case u2Cnotroom => first | k_is | exact rfl | kernel_rfl | decide +kernel)
    (case u3Cnotroom => first | k_is | exact rfl | kernel_rfl | decide +kernel)
    (case u4Cnotroom => first | k_is | exact rfl | kernel_rfl | decide +kernel)
    (case u5Cnotroom_room => first | k_is | exact rfl | kernel_rfl | decide +kernel)
    (case u6Cnotroom => first | k_is | exact rfl | kernel_rfl | decide +kernel)
    (case u7Cnotroom => first | k_is | exact rfl | kernel_rfl | decide +kernel)
    (case u8Cnotroom => first | k_is | exact rfl | kernel_rfl | decide +kernel)
    (case u9Cnotroom => first | k_is | exact rfl | kernel_rfl | decide +kernel)
    (case uACnotroom => first | k_is | exact rfl | kernel_rfl | decide +kernel)
    (case u1Cis_ => first | k_is | exact rfl | kernel_rfl | decide +kernel)
    (case u2Cis_ => first | k_is | exact rfl | kernel_rfl | decide +kernel)
    (case u3Cis_ => first | k_is | exact rfl | kernel_rfl | decide +kernel)
    (case u4Cis_ => first | k_is | exact rfl | kernel_rfl | decide +kernel)
    (case u5Cis__seat => first | k_is | exact rfl | kernel_rfl | decide +kernel)
    (case u5Cis__what => first | k_is | exact rfl | kernel_rfl | decide +kernel)
    (case u6Cis_ => first | k_is | exact rfl | kernel_rfl | decide +kernel)
    (case u7Cis_ => first | k_is | exact rfl | kernel_rfl | decide +kernel)
    (case u8Cis_ => first | k_is | exact rfl | kernel_rfl | decide +kernel)
    (case u9Cis_ => first | k_is | exact rfl | kernel_rfl | decide +kernel)
    (case uACis_ => first | k_is | exact rfl | kernel_rfl | decide +kernel)
    (case u1Cisnot => first | k_is | exact rfl | kernel_rfl | decide +kernel)
    (case u2Cisnot => first | k_is | exact rfl | kernel_rfl | decide +kernel)
    (case u3Cisnot => first | k_is | exact rfl | kernel_rfl | decide +kernel)
    (case u4Cisnot => first | k_is | exact rfl | kernel_rfl | decide +kernel)
    (case u5Cisnot_seat => first | k_is | exact rfl | kernel_rfl | decide +kernel)
    (case u5Cisnot_what => first | k_is | exact rfl | kernel_rfl | decide +kernel)
    (case u6Cisnot => first | k_is | exact rfl | kernel_rfl | decide +kernel)
    (case u7Cisnot => first | k_is | exact rfl | kernel_rfl | decide +kernel)
    (case u8Cisnot => first | k_is | exact rfl | kernel_rfl | decide +kernel)
    (case u9Cisnot => first | k_is | exact rfl | kernel_rfl | decide +kernel)
    (case uACisnot => first | k_is | exact rfl | kernel_rfl | decide +kernel)
    (case u1Csame => first | k_is | exact rfl | kernel_rfl | decide +kernel)
    (case u2Csame => first | k_is | exact rfl | kernel_rfl | decide +kernel)
    (case u3Csame => first | k_is | exact rfl | kernel_rfl | decide +kernel)
    (case u4Csame => first | k_is | exact rfl | kernel_rfl | decide +kernel)
    (case u6Csame => first | k_is | exact rfl | kernel_rfl | decide +kernel)
    (case u7Csame => first | k_is | exact rfl | kernel_rfl | decide +kernel)
    (case u8Csame => first | k_is | exact rfl | kernel_rfl | decide +kernel)
    (case u9Csame => first | k_is | exact rfl | kernel_rfl | decide +kernel)
    (case uACsame => first | k_is | exact rfl | kernel_rfl | decide +kernel)
    (case uBCsame => first | k_is | exact rfl | kernel_rfl | decide +kernel)
    (case u1Capart => first | k_is | exact rfl | kernel_rfl | decide +kernel)
    (case u2Capart => first | k_is | exact rfl | kernel_rfl | decide +kernel)
    (case u3Capart => first | k_is | exact rfl | kernel_rfl | decide +kernel)
    (case u4Capart => first | k_is | exact rfl | kernel_rfl | decide +kernel)
    (case u6Capart => first | k_is | exact rfl | kernel_rfl | decide +kernel)
    (case u7Capart => first | k_is | exact rfl | kernel_rfl | decide +kernel)
    (case u8Capart => first | k_is | exact rfl | kernel_rfl | decide +kernel)
    (case u9Capart => first | k_is | exact rfl | kernel_rfl | decide +kernel)
    (case uACapart => first | k_is | exact rfl | kernel_rfl | decide +kernel)
    (case uBCapart => first | k_is | exact rfl | kernel_rfl | decide +kernel)
    (case u1Cleast => first | k_is | exact rfl | kernel_rfl | decide +kernel)
    (case u2Cleast => first | k_is | exact rfl | kernel_rfl | decide +kernel)
    (case u3Cleast => first | k_is | exact rfl | kernel_rfl | decide +kernel)
    (case u4Cleast => first | k_is | exact rfl | kernel_rfl | decide +kernel)
    (case u5Cleast_clock => first | k_is | exact rfl | kernel_rfl | decide +kernel)
    (case u5Cleast_number => first | k_is | exact rfl | kernel_rfl | decide +kernel)
    (case u6Cleast => first | k_is | exact rfl | kernel_rfl | decide +kernel)
    (case u7Cleast => first | k_is | exact rfl | kernel_rfl | decide +kernel)
    (case u8Cleast => first | k_is | exact rfl | kernel_rfl | decide +kernel)
    (case u9Cleast => first | k_is | exact rfl | kernel_rfl | decide +kernel)
    (case uACleast => first | k_is | exact rfl | kernel_rfl | decide +kernel)
    (case u1Cbelow => first | k_is | exact rfl | kernel_rfl | decide +kernel)
    (case u2Cbelow => first | k_is | exact rfl | kernel_rfl | decide +kernel)
    (case u3Cbelow => first | k_is | exact rfl | kernel_rfl | decide +kernel)
    (case u4Cbelow => first | k_is | exact rfl | kernel_rfl | decide +kernel)
    (case u5Cbelow_clock => first | k_is | exact rfl | kernel_rfl | decide +kernel)
    (case u5Cbelow_number => first | k_is | exact rfl | kernel_rfl | decide +kernel)
    (case u6Cbelow => first | k_is | exact rfl | kernel_rfl | decide +kernel)
    (case u7Cbelow => first | k_is | exact rfl | kernel_rfl | decide +kernel)
    (case u8Cbelow => first | k_is | exact rfl | kernel_rfl | decide +kernel)
    (case u9Cbelow => first | k_is | exact rfl | kernel_rfl | decide +kernel)
    (case uACbelow => first | k_is | exact rfl | kernel_rfl | decide +kernel)
    (case u1Cto => first | k_is | exact rfl | kernel_rfl | decide +kernel)
    (case u2Cto => first | k_is | exact rfl | kernel_rfl | decide +kernel)
    (case u3Cto => first | k_is | exact rfl | kernel_rfl | decide +kernel)
    (case u4Cto => first | k_is | exact rfl | kernel_rfl | decide +kernel)
    (case u5Cto_room => first | k_is | exact rfl | kernel_rfl | decide +kernel)
    (case u6Cto => first | k_is | exact rfl | kernel_rfl | decide +kernel)
    (case u7Cto => first | k_is | exact rfl | kernel_rfl | decide +kernel)
    (case u8Cto => first | k_is | exact rfl | kernel_rfl | decide +kernel)
    (case u9Cto => first | k_is | exact rfl | kernel_rfl | decide +kernel)
    (case uACto => first | k_is | exact rfl | kernel_rfl | decide +kernel)
    (case u1Cput => first | k_is | exact rfl | kernel_rfl | decide +kernel)
    (case u2Cput => first | k_is | exact rfl | kernel_rfl | decide +kernel)
    (case u3Cput => first | k_is | exact rfl | kernel_rfl | decide +kernel)
    (case u4Cput => first | k_is | exact rfl | kernel_rfl | decide +kernel)
    (case u5Cput_seat => first | k_is | exact rfl | kernel_rfl | decide +kernel)
    (case u5Cput_what => first | k_is | exact rfl | kernel_rfl | decide +kernel)
    (case u6Cput => first | k_is | exact rfl | kernel_rfl | decide +kernel)
    (case u7Cput => first | k_is | exact rfl | kernel_rfl | decide +kernel)
    (case u8Cput => first | k_is | exact rfl | kernel_rfl | decide +kernel)
    (case u9Cput => first | k_is | exact rfl | kernel_rfl | decide +kernel)
    (case uACput => first | k_is | exact rfl | kernel_rfl | decide +kernel)
    (case u1Czero => first | k_is | exact rfl | kernel_rfl | decide +kernel)
    (case u2Czero => first | k_is | exact rfl | kernel_rfl | decide +kernel)
    (case u3Czero => first | k_is | exact rfl | kernel_rfl | decide +kernel)
    (case u4Czero => first | k_is | exact rfl | kernel_rfl | decide +kernel)
    (case u5Czero_clock => first | k_is | exact rfl | kernel_rfl | decide +kernel)
    (case u6Czero => first | k_is | exact rfl | kernel_rfl | decide +kernel)
    (case u7Czero => first | k_is | exact rfl | kernel_rfl | decide +kernel)
    (case u8Czero => first | k_is | exact rfl | kernel_rfl | decide +kernel)
    (case u9Czero => first | k_is | exact rfl | kernel_rfl | decide +kernel)
    (case uACzero => first | k_is | exact rfl | kernel_rfl | decide +kernel)
    (case u1Crun => first | k_is | exact rfl | kernel_rfl | decide +kernel)
    (case u2Crun => first | k_is | exact rfl | kernel_rfl | decide +kernel)
    (case u3Crun => first | k_is | exact rfl | kernel_rfl | decide +kernel)
    (case u4Crun => first | k_is | exact rfl | kernel_rfl | decide +kernel)
    (case u5Crun_clock => first | k_is | exact rfl | kernel_rfl | decide +kernel)
    (case u6Crun => first | k_is | exact rfl | kernel_rfl | decide +kernel)
    (case u7Crun => first | k_is | exact rfl | kernel_rfl | decide +kernel)
    (case u8Crun => first | k_is | exact rfl | kernel_rfl | decide +kernel)
    (case u9Crun => first | k_is | exact rfl | kernel_rfl | decide +kernel)
    (case uACrun => first | k_is | exact rfl | kernel_rfl | decide +kernel)
    (case u1Chalt => first | k_is | exact rfl | kernel_rfl | decide +kernel)
    (case u2Chalt => first | k_is | exact rfl | kernel_rfl | decide +kernel)
    (case u3Chalt => first | k_is | exact rfl | kernel_rfl | decide +kernel)
    (case u4Chalt => first | k_is | exact rfl | kernel_rfl | decide +kernel)
    (case u5Chalt_clock => first | k_is | exact rfl | kernel_rfl | decide +kernel)
    (case u6Chalt => first | k_is | exact rfl | kernel_rfl | decide +kernel)
    (case u7Chalt => first | k_is | exact rfl | kernel_rfl | decide +kernel)
    (case u8Chalt => first | k_is | exact rfl | kernel_rfl | decide +kernel)
    (case u9Chalt => first | k_is | exact rfl | kernel_rfl | decide +kernel)
    (case uAChalt => first | k_is | exact rfl | kernel_rfl | decide +kernel)
    (case u1CC => first | k_is | exact rfl | kernel_rfl | decide +kernel)
    (case u2CC => first | k_is | exact rfl | kernel_rfl | decide +kernel)
    (case u3CC => first | k_is | exact rfl | kernel_rfl | decide +kernel)
    (case u4CC => first | k_is | exact rfl | kernel_rfl | decide +kernel)
    (case u5CC_kind => first | k_is | exact rfl | kernel_rfl | decide +kernel)
    (case u5CC_conditions => first | k_is | exact rfl | kernel_rfl | decide +kernel)
    (case u5CC_changes => first | k_is | exact rfl | kernel_rfl | decide +kernel)
    (case u6CC => first | k_is | exact rfl | kernel_rfl | decide +kernel)
    (case u7CC => first | k_is | exact rfl | kernel_rfl | decide +kernel)
    (case u8CC => first | k_is | exact rfl | kernel_rfl | decide +kernel)
    (case u9CC => first | k_is | exact rfl | kernel_rfl | decide +kernel)
    (case uACC => first | k_is | exact rfl | kernel_rfl | decide +kernel)
    (case uCC1 => first | k_is | exact rfl | kernel_rfl | decide +kernel)
    (case uCC2 => first | k_is | exact rfl | kernel_rfl | decide +kernel)
    (case uCC3 => first | k_is | exact rfl | kernel_rfl | decide +kernel)
    (case w1 => first | decide +kernel | kernel_rfl | exact rfl)
    (case w2 => first | decide +kernel | kernel_rfl | exact rfl)
    (case w3 => first | decide +kernel | kernel_rfl | exact rfl)
    (case w4 => first | decide +kernel | kernel_rfl | exact rfl)
    (case w5 => first | decide +kernel | kernel_rfl | exact rfl)
    (case w6 => first | decide +kernel | kernel_rfl | exact rfl)
    (case w7 => first | decide +kernel | kernel_rfl | exact rfl)
    (case w8 => first | decide +kernel | kernel_rfl | exact rfl)
    (case w9 => first | decide +kernel | kernel_rfl | exact rfl)
    (case w10 => first | decide +kernel | kernel_rfl | exact rfl)
    (case q1 => first | k_is | exact rfl | kernel_rfl | decide +kernel)
    (case q2 => first | k_is | exact rfl | kernel_rfl | decide +kernel)
    (case nBc => first | k_is | exact rfl | kernel_rfl | decide +kernel)
    (case xBc => first | exact rfl | kernel_rfl | decide +kernel)
    (case yBc => first | k_is | exact rfl | kernel_rfl | decide +kernel)
    (case wSBc => first | exact rfl | kernel_rfl | decide +kernel)
    (case wOBc => first | exact rfl | kernel_rfl | decide +kernel)
    (case nBh => first | k_is | exact rfl | kernel_rfl | decide +kernel)
    (case xBh => first | exact rfl | kernel_rfl | decide +kernel)
    (case yBh => first | k_is | exact rfl | kernel_rfl | decide +kernel)
    (case wSBh => first | exact rfl | kernel_rfl | decide +kernel)
    (case wOBh => first | exact rfl | kernel_rfl | decide +kernel)
    (case nCB => first | k_is | exact rfl | kernel_rfl | decide +kernel)
    (case xCB => first | exact rfl | kernel_rfl | decide +kernel)
    (case yCB => first | k_is | exact rfl | kernel_rfl | decide +kernel)
    (case wSCB => first | exact rfl | kernel_rfl | decide +kernel)
    (case wOCB => first | exact rfl | kernel_rfl | decide +kernel)
    (case nCBi => first | k_is | exact rfl | kernel_rfl | decide +kernel)
    (case y2 => first | k_is | exact rfl | kernel_rfl | decide +kernel)
    (case y3 => first | k_is | exact rfl | kernel_rfl | decide +kernel)
    (case y4 => first | k_is | exact rfl | kernel_rfl | decide +kernel)
    (case y5 => first | k_is | exact rfl | kernel_rfl | decide +kernel)
    (case o1Bc => exact ⟨_, _, _, _, _, _, _, _, _, _, _, _, _, _, _, rfl, rfl⟩)
    (case o2Bc => first | k_is | exact rfl | kernel_rfl | decide +kernel)
    (case o3Bc => first | k_is | exact rfl | kernel_rfl | decide +kernel)
    (case o4Bc => first | k_is | exact rfl | kernel_rfl | decide +kernel)
    (case o5Bc => first | k_is | exact rfl | kernel_rfl | decide +kernel)
    (case o6Bc => first | k_is | exact rfl | kernel_rfl | decide +kernel)
    (case o7Bc => first | k_is | exact rfl | kernel_rfl | decide +kernel)
    (case o8Bc => first | k_is | exact rfl | kernel_rfl | decide +kernel)
    (case o9Bc => first | k_is | exact rfl | kernel_rfl | decide +kernel)
    (case oABc => first | k_is | exact rfl | kernel_rfl | decide +kernel)
    (case o1Bh => exact ⟨_, _, _, _, _, _, _, _, _, _, _, _, _, _, _, rfl, rfl⟩)
    (case o2Bh => first | k_is | exact rfl | kernel_rfl | decide +kernel)
    (case o3Bh => first | k_is | exact rfl | kernel_rfl | decide +kernel)
    (case o4Bh => first | k_is | exact rfl | kernel_rfl | decide +kernel)
    (case o5Bh => first | k_is | exact rfl | kernel_rfl | decide +kernel)
    (case o6Bh => first | k_is | exact rfl | kernel_rfl | decide +kernel)
    (case o7Bh => first | k_is | exact rfl | kernel_rfl | decide +kernel)
    (case o8Bh => first | k_is | exact rfl | kernel_rfl | decide +kernel)
    (case o9Bh => first | k_is | exact rfl | kernel_rfl | decide +kernel)
    (case oABh => first | k_is | exact rfl | kernel_rfl | decide +kernel)
    (case o1CB => exact ⟨_, _, _, _, _, _, _, _, _, _, _, _, _, _, _, rfl, rfl⟩)
    (case o2CB => first | k_is | exact rfl | kernel_rfl | decide +kernel)
    (case o3CB => first | k_is | exact rfl | kernel_rfl | decide +kernel)
    (case o4CB => first | k_is | exact rfl | kernel_rfl | decide +kernel)
    (case o5CB => first | k_is | exact rfl | kernel_rfl | decide +kernel)
    (case o6CB => first | k_is | exact rfl | kernel_rfl | decide +kernel)
    (case o7CB => first | k_is | exact rfl | kernel_rfl | decide +kernel)
    (case o8CB => first | k_is | exact rfl | kernel_rfl | decide +kernel)
    (case o9CB => first | k_is | exact rfl | kernel_rfl | decide +kernel)
    (case oACB => first | k_is | exact rfl | kernel_rfl | decide +kernel)
    (case z_int => first | k_is | exact rfl | kernel_rfl | decide +kernel)
    (case z_abs => first | k_is | exact rfl | kernel_rfl | decide +kernel)
    (case z_len => first | k_is | exact rfl | kernel_rfl | decide +kernel)
    (case z_enumerate => first | k_is | exact rfl | kernel_rfl | decide +kernel)
    (case z_range => first | k_is | exact rfl | kernel_rfl | decide +kernel)
    (case z_isinstance => first | k_is | exact rfl | kernel_rfl | decide +kernel)
    (case z_str => first | k_is | exact rfl | kernel_rfl | decide +kernel)
    (case z_bool => first | k_is | exact rfl | kernel_rfl | decide +kernel)
    (case z_list => first | k_is | exact rfl | kernel_rfl | decide +kernel)
    (case z_tuple => first | k_is | exact rfl | kernel_rfl | decide +kernel)
