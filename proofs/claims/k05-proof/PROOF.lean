import PyProof.Rows.All
import Wide.All
import OpenK.AllK
import Wide.FinOn
import HandS.ForMost
import HandS.Wide
import HandS.Codes
import HandS.Exc
import HandS.TryOnly
import HandS.ExcOwn
import HandS.WordsExc
import HandS.ExcInit
import HandS.ExcField
import HandS.IsInst
import HandS.StrMore
import HandS.Style
import KE.GoesMore
import KE.GoesEnum
import HandS.More
import HandS.IterVal
import KE.KOwnIter
import HandS.Conv
import KE.KDictSum
import PyProof.ReprBulk
import PyProof.ReprRoads
import HandS.NoneIn
import HandS.Dict
import HandS.Walk
import HandS.ExcIs
import KE.GoesComp
import KE.KExcHit
import HandS.TupAny
import HandS.Defaults
import HandS.Property
import HandS.Star
import HandS.ClsMeth
import HandS.SetKeys
import HandS.Strs
import PyProof.SetRoads
import HandS.Iter
import KE.KStateDown
import HandS.Head0
import HandS.Head1
import HandS.Head2
import PySem.Challenge.RW_searchback_k05_whole_renamed_there_and_b
set_option Elab.async false
set_option maxRecDepth 100000
namespace Kx
open PySem L2
def top (i : Nat) : Stmt := PySem.Challenge.pw_searchback_k05_whole_renamed_there_and_b.main.body.getD i (.Pass ⟨0, 0, 0, 0⟩)
abbrev sWall : Stmt := top 0 -- _wall(k)
abbrev sBadKinds_init : Stmt := inClass (top 3) 0 -- BadKinds.__init__
abbrev sBadHistory_init : Stmt := inClass (top 4) 0 -- BadHistory.__init__
abbrev sBadYears_init : Stmt := inClass (top 5) 0 -- BadYears.__init__
abbrev sBadMap_init : Stmt := inClass (top 6) 0 -- BadMap.__init__
abbrev sBadStand_init : Stmt := inClass (top 7) 0 -- BadStand.__init__
abbrev sWhole : Stmt := top 10 -- is_whole(thing, low, high)
abbrev sLabel : Stmt := top 11 -- is_label(thing)
abbrev sSeq : Stmt := top 12 -- is_sequence(thing)
abbrev sKinds_init : Stmt := inClass (top 17) 0 -- Kinds.__init__
abbrev sKinds_eq : Stmt := inClass (top 17) 1 -- Kinds.__eq__
abbrev sKinds_len : Stmt := inClass (top 17) 2 -- Kinds.__len__
abbrev sKinds_iter : Stmt := inClass (top 17) 3 -- Kinds.__iter__
abbrev sKinds_contains : Stmt := inClass (top 17) 4 -- Kinds.__contains__
abbrev sKinds_arity_of : Stmt := inClass (top 17) 5 -- Kinds.arity_of
abbrev sKinds_fault : Stmt := inClass (top 17) 6 -- Kinds.fault
abbrev sRowFault : Stmt := top 18 -- _row_fault(row, arities)
abbrev sMapFault : Stmt := top 22 -- map_fault(names, persons)
abbrev sHistory_init : Stmt := inClass (top 23) 0 -- History.__init__
abbrev sHistory_eq : Stmt := inClass (top 23) 1 -- History.__eq__
abbrev sHistory_len : Stmt := inClass (top 23) 2 -- History.__len__
abbrev sHistory_iter : Stmt := inClass (top 23) 3 -- History.__iter__
abbrev sHistory_from_years : Stmt := inClass (top 23) 4 -- History.from_years
abbrev sHistory_persons : Stmt := inClass (top 23) 5 -- History.persons
abbrev sHistory_deed_count : Stmt := inClass (top 23) 6 -- History.deed_count
abbrev sHistory_first : Stmt := inClass (top 23) 7 -- History.first
abbrev sHistory_last : Stmt := inClass (top 23) 8 -- History.last
abbrev sHistory_beginnings : Stmt := inClass (top 23) 9 -- History.beginnings
abbrev sHistory_joined : Stmt := inClass (top 23) 10 -- History.joined
abbrev sHistory_then_year : Stmt := inClass (top 23) 11 -- History.then_year
abbrev sHistory_renamed : Stmt := inClass (top 23) 12 -- History.renamed
abbrev sHistory_agrees : Stmt := inClass (top 23) 13 -- History.agrees
abbrev sHistoryOf : Stmt := top 24 -- history_of(kinds, years)
abbrev sLastOf : Stmt := top 25 -- _last_of(years, many)
abbrev sIsTooLong : Stmt := top 26 -- _is_too_long(years)
abbrev sYearOf : Stmt := top 27 -- _year_of(kinds, index, year)
abbrev sRenamedYear : Stmt := top 28 -- _renamed_year(year, names)
abbrev sSitters : Stmt := top 30 -- sitters(seats)
abbrev sStand_init : Stmt := inClass (top 35) 0 -- Stand.__init__
abbrev sStand_eq : Stmt := inClass (top 35) 1 -- Stand.__eq__
abbrev sStand_code : Stmt := inClass (top 35) 2 -- Stand.code
abbrev sStand_persons : Stmt := inClass (top 35) 3 -- Stand.persons
abbrev sStand_renamed : Stmt := inClass (top 35) 4 -- Stand.renamed
abbrev sClockFault : Stmt := top 36 -- _clock_fault(clock)
abbrev sMix : Stmt := top 38 -- _law_mix(_law_number, _law_turn)
abbrev sHand : Stmt := top 39 -- _law_hand(_law_script)
abbrev sDraw : Stmt := top 40 -- _law_draw(_law_hand_here, _law_many)
abbrev sOne : Stmt := top 41 -- _law_one(_law_hand_here, _law_rows)
abbrev sWord : Stmt := top 42 -- _law_word(_law_hand_here, _law_most)
abbrev sLLabel : Stmt := top 43 -- _law_label(_law_thing)
abbrev sOdd : Stmt := top 44 -- _law_odd(_law_hand_here)
abbrev sLKinds : Stmt := top 45 -- _law_kinds(_law_hand_here)
abbrev sLMadeDeed : Stmt := top 46 -- _law_made_deed(_law_hand_here, _law_rows, _law_persons_here)
abbrev sLPersons : Stmt := top 47 -- _law_persons(_law_hand_here)
abbrev sLToldYears : Stmt := top 48 -- _law_told_years(_law_hand_here, _law_rows, _law_persons_here)
abbrev sLTuples : Stmt := top 49 -- _law_tuples(_law_years)
abbrev sLNamed : Stmt := top 50 -- _law_named(_law_years)
abbrev sLNames : Stmt := top 51 -- _law_names(_law_hand_here, _law_persons_here)
abbrev sLSpoil : Stmt := top 52 -- _law_spoil(_law_hand_here, _law_names_here, _law_persons_here)
abbrev sLDue : Stmt := top 53 -- _law_due(_law_told, _law_persons_here)
abbrev sLLed : Stmt := top 54 -- _law_led(_law_years, _law_names_here)
abbrev sLTried : Stmt := top 55 -- _law_tried(_law_thing, _law_told)
abbrev sLaw : Stmt := top 56 -- law(_law_script)
end Kx

set_option maxHeartbeats 4000000
namespace Kx
open PySem L2
section
variable {P : Program} {w : World} {K : PySem.W.Frag} {mg : Str → Option Value} {base : Heap}
structure Bl (mg : Str → Option Value) : Prop where
  int : mg "int" = none
  abs : mg "abs" = none
  len : mg "len" = none
  enumerate : mg "enumerate" = none
  range : mg "range" = none
def spMix : Sp := fun vs H Q _ => ∃ a b : Int, vs = [.int a, .int b] ∧ ∀ z : Int, Q (.int z) H
structure Has (P : Program) (w : World) (K : PySem.W.Frag) (mg : Str → Option Value) (base : Heap) (x : Str) (k : Nat) (ps : List Str) (sp : Sp) (f : Addr) (fd : FuncData) : Prop where
  G : FnOk P w K mg base CX0 k f fd ps sp
  m : mg x = some (.ref f)
  kp : PySem.W.keepIn K (.ref f) = true
  b : Binds K fd ps []
def HasF (P : Program) (w : World) (K : PySem.W.Frag) (mg : Str → Option Value) (base : Heap) (x : Str) (k : Nat) (ps : List Str) (sp : Sp) : Prop := ∃ f fd, Has P w K mg base x k ps sp f fd
theorem scMix : FnScope ["_law_number", "_law_turn", "_law_once", "_law_twice"] ["_law_number", "_law_turn"] (defScope sMix) := ⟨rfl, rfl, rfl, by decide +kernel, rfl, by decide +kernel, by decide +kernel⟩
theorem small31 {z : Int} {m : Int} (h : 0 < m) (h' : m ≤ 2147483648) : CMul (z % m) (z % m) := by
  have h1 := Int.emod_nonneg z (show m ≠ 0 by omega)
  have h2 := Int.emod_lt_of_pos z h
  exact .inl ⟨by omega, by omega⟩
theorem ok_mix {f : Addr} {fd : FuncData} (F : Fun K "_law_mix" "_law_mix" sMix f fd) (m : mg "_law_mix" = some (.ref f)) (T : Bl mg) : HasF P w K mg base "_law_mix" 1 ["_law_number", "_law_turn"] spMix := by
  refine ⟨f, fd, ?_, m, F.kp, F.binds fun _ _ _ _ _ _ us hl => match us, hl with | [_, _], _ => rfl⟩
  refine F.ok scMix (fun vs H Q E h => ?_) (fun cdv A outer s H vs Q E hr h => ?_)
  · obtain ⟨a, b, rfl, _⟩ := h
    rfl
  · obtain ⟨a, b, rfl, k⟩ := h
    refine ⟨_, pss_cons (ps_set (i := 2) scMix.nd rfl (Or.inl rfl) (pe_op op_mod (pe_callTy call_int1 (by rfl) T.int (by decide +kernel) (pa_cons (pe_op op_add (pe_op op_add (pe_op op_mul (pv 0) pe_int) (pe_op op_mul (pv 1) pe_int)) pe_int) pa_nil)) pe_int))
      (pss_cons (ps_set (i := 3) scMix.nd rfl (Or.inl rfl) (pe_op op_mod (pe_callTy call_int1 (by rfl) T.int (by decide +kernel) (pa_cons (pe_op op_add (pe_op op_add (pe_op op_mul (pv 2) (pv 2)) (pe_op op_mul (pe_op op_fdiv (pv 2) pe_int) pe_int)) (pe_op op_mul (pv 1) pe_int)) pa_nil)) pe_int))
      (pss_one (ps_ret (pe_op op_fdiv (pe_op op_mod (pe_callTy call_int1 (by rfl) T.int (by decide +kernel) (pa_cons (pe_op op_add (pe_op op_fdiv (pe_op op_mul (pv 3) (pv 3)) pe_int) (pv 2)) pa_nil)) pe_int) pe_int)))), ?_⟩
    refine ⟨_, rfl, _, _, rfl, rfl, .inr ⟨by decide, by decide⟩, _, rfl, _, _, rfl, rfl, .inr ⟨by decide, by decide⟩, _, _, rfl, rfl, _, _, rfl, rfl, .inl ⟨_, rfl, _, _, rfl, rfl, (by show (0 : Int) < _; decide), ?_⟩⟩
    refine ⟨_, rfl, _, rfl, _, _, rfl, rfl, small31 (by decide) (by decide), _, rfl, _, _, rfl, rfl, ⟨by decide, by decide⟩, _, _, rfl, rfl, .inr ⟨by decide, by decide⟩, _, _, rfl, rfl, _, rfl, _, _, rfl, rfl, .inr ⟨by decide, by decide⟩, _, _, rfl, rfl, .inl ⟨_, rfl, _, _, rfl, rfl, (by show (0 : Int) < _; decide), ?_⟩⟩
    refine ⟨_, rfl, _, rfl, _, _, rfl, rfl, small31 (by decide) (by decide), _, _, rfl, rfl, ⟨by decide, by decide⟩, _, rfl, _, _, rfl, rfl, .inl ⟨_, rfl, _, _, rfl, rfl, (by show (0 : Int) < _; decide), _, _, rfl, rfl, ⟨by decide, by decide⟩, ?_⟩⟩
    exact k _
/-- the hand at p: what is left of the script, and three counters -/
def HandAt (H : Hp) (p q : Addr) : Prop := ∃ (cs : List Int) (a : Nat) (b c : Int), H p = some (.lst [.ref q, .int a, .int b, .int c]) ∧ H q = some (.lst (cs.map V.int))
/-- all but p is as it was -/
def Keep (H H' : Hp) (p : Addr) : Prop := ∀ b o, H b = some o → b ≠ p → H' b = some o
theorem Keep.refl {H : Hp} {p : Addr} : Keep H H p := fun _ _ h _ => h
theorem Keep.trans {H H1 H2 : Hp} {p : Addr} (a : Keep H H1 p) (b : Keep H1 H2 p) : Keep H H2 p := fun c o h e => b c o (a c o h e) e
theorem Keep.upd {H H1 : Hp} {p : Addr} {o : HO} (a : Keep H H1 p) : Keep H (upd H1 p o) p := fun c u h e => by rw [upd_ne e]; exact a c u h e
theorem HandAt.ne {H : Hp} {p q : Addr} {xs ys : List V} (h : H p = some (.lst (.ref q :: xs))) {cs : List Int} (h' : H q = some (.lst (cs.map V.int))) : q ≠ p := by
  intro e
  subst e
  rw [h] at h'
  cases cs with
  | nil => exact nomatch h'
  | cons c cs => exact nomatch h'
def spDraw : Sp := fun vs H Q _ => ∃ (p q : Addr) (m : Int), vs = [.ref p, .int m] ∧ HandAt H p q ∧ 0 < m ∧ m.natAbs < 2 ^ 200 ∧
  ∀ (z : Int) (H' : Hp), 0 ≤ z → z < m → HandAt H' p q → Keep H H' p → Q (.int z) H'
theorem scDraw : FnScope ["_law_hand_here", "_law_many", "_law_cell", "_law_rest"] ["_law_hand_here", "_law_many"] (defScope sDraw) := ⟨rfl, rfl, rfl, by decide +kernel, rfl, by decide +kernel, by decide +kernel⟩
theorem ok_draw {f : Addr} {fd : FuncData} (F : Fun K "_law_draw" "_law_draw" sDraw f fd) (m : mg "_law_draw" = some (.ref f)) (T : Bl mg) (M : HasF P w K mg base "_law_mix" 1 ["_law_number", "_law_turn"] spMix) : HasF P w K mg base "_law_draw" 2 ["_law_hand_here", "_law_many"] spDraw := by
  refine ⟨f, fd, ?_, m, F.kp, F.binds fun _ _ _ _ _ _ us hl => match us, hl with | [_, _], _ => rfl⟩
  obtain ⟨f1, fd1, M⟩ := M
  refine F.ok scDraw (fun vs H Q E h => ?_) (fun cdv A outer s H vs Q E hr h => ?_)
  · obtain ⟨a, b, c, rfl, _⟩ := h
    rfl
  · obtain ⟨p, q, m, rfl, ⟨cs, a, b, c, hp, hq⟩, m0, m1, k⟩ := h
    have nqp : q ≠ p := HandAt.ne (ys := []) hp hq
    refine ⟨_, C8.pss_cut (ps_if (PW.pt (pw_and (pt_cmpR op_eq (pe_ix ix_list (pv 0) pe_int (fun _ _ => rfl)) pe_int (nomark _)) (pw_and1 (pt_cmpR op_lt (pe_ix ix_list (pv 0) pe_int (fun _ _ => rfl)) (pe_callB call_len_seq (by rfl) T.len PySem.boot_len (pa_cons (pe_ix ix_list (pv 0) pe_int (fun _ _ => rfl)) pa_nil)) (nomark _)))))
        (pss_cons (ps_set (i := 2) scDraw.nd rfl (Or.inl rfl) (pe_ix ix_list (pe_ix ix_list (pv 0) pe_int (fun _ _ => rfl)) (pe_ix ix_list (pv 0) pe_int (fun _ _ => rfl)) (fun _ _ => rfl)))
        (pss_cons (ps_asg (pe_op op_add (pe_ix ix_list (pv 0) pe_int (fun _ _ => rfl)) pe_int) (pg_sub (pv 0) pe_int set_list))
        (pss_cons (ps_if (pt_cmpR op_lt (pv 2) (pe_op op_pow pe_int pe_int) (nomark _)) (pss_one (ps_ret (pe_op op_mod (pe_callTy call_int1 (by rfl) T.int (by decide +kernel) (pa_cons (pe_call M.G hr (by rfl) M.m M.kp M.b .nil pass0 (pa_cons (pe_op op_mod (pe_callTy call_int1 (by rfl) T.int (by decide +kernel) (pa_cons (pv 2) pa_nil)) pe_int) (pa_cons (pe_ix ix_list (pv 0) pe_int (fun _ _ => rfl)) pa_nil))) pa_nil)) (pv 1)))) pss_nil)
        (pss_one (ps_asg (pv 2) (pg_sub (pv 0) pe_int set_list)))))) pss_nil)
      (pss_cons (ps_if (pt_cmpR op_gt (pe_ix ix_list (pv 0) pe_int (fun _ _ => rfl)) pe_int (nomark _))
        (pss_cons (ps_set (i := 3) scDraw.nd rfl (Or.inl rfl) (pe_ix ix_list (pv 0) pe_int (fun _ _ => rfl)))
        (pss_cons (ps_asg (pe_op op_fdivW (pv 3) (pv 1)) (pg_sub (pv 0) pe_int set_list))
        (pss_one (ps_ret (pe_op op_mod (pe_callTy call_int1 (by rfl) T.int (by decide +kernel) (pa_cons (pv 3) pa_nil)) (pv 1)))))) pss_nil)
      (pss_cons (ps_asg (pe_op op_mod (pe_callTy call_int1 (by rfl) T.int (by decide +kernel) (pa_cons (pe_op op_add (pe_ix ix_list (pv 0) pe_int (fun _ _ => rfl)) pe_int) pa_nil)) pe_int) (pg_sub (pv 0) pe_int set_list))
      (pss_one (ps_ret (pe_op op_mod (pe_callTy call_int1 (by rfl) T.int (by decide +kernel) (pa_cons (pe_call M.G hr (by rfl) M.m M.kp M.b .nil pass0 (pa_cons (pe_ix ix_list (pv 0) pe_int (fun _ _ => rfl)) (pa_cons (pe_ix ix_list (pv 0) pe_int (fun _ _ => rfl)) pa_nil))) pa_nil)) (pv 1)))))), ?_⟩
    refine ⟨fun σ H1 => ∃ (x y : Option V) (a : Nat) (b c : Int), σ = [some (.ref p), some (.int m), x, y] ∧ H1 p = some (.lst [.ref q, .int a, .int b, .int c]) ∧ H1 q = some (.lst (cs.map V.int)) ∧ Keep H H1 p, ?_, ?_⟩
    · refine ⟨_, rfl, p, _, _, _, rfl, rfl, SqL.of hp, by rfl, rfl, _, rfl, ?_⟩
      refine ite2 (fun _ => ?_) (fun _ => ?_)
      · refine ⟨_, rfl, p, _, _, _, rfl, rfl, SqL.of hp, by rfl, _, rfl, p, _, _, _, rfl, rfl, SqL.of hp, by rfl, q, _, rfl, .inl (SqL.of hq), _, _, rfl, rfl, _, rfl, ?_⟩
        refine ite2 (fun h1 => ?_) (fun _ => ?_)
        · have h1 : (a : Int) < ((cs.map V.int).length : Nat) := of_decide_eq_true h1
          rw [List.length_map] at h1
          have h2 : a < cs.length := by omega
          have h3 : (cs.map V.int)[a]? = some (V.int cs[a]) := by rw [List.getElem?_map, List.getElem?_eq_getElem h2]; rfl
          have hq' : ∀ o, (upd H p o) q = some (.lst (cs.map V.int)) := fun o => by rw [upd_ne nqp]; exact hq
          refine ⟨_, rfl, p, _, _, _, rfl, rfl, SqL.of hp, by rfl, _, rfl, p, _, _, _, rfl, rfl, SqL.of hp, by rfl, q, _, _, _, rfl, rfl, SqL.of hq, atI_nat h3, ?_⟩
          refine ⟨_, rfl, p, _, _, _, rfl, rfl, SqL.of hp, by rfl, _, _, rfl, rfl, _, rfl, p, _, _, _, rfl, rfl, hp, by rfl, ?_⟩
          refine ⟨_, rfl, _, _, rfl, rfl, ⟨by decide, by decide, by decide⟩, _, _, rfl, rfl, _, rfl, ?_⟩
          refine ite2 (fun _ => ?_) (fun _ => ?_)
          · refine ⟨_, rfl, .inl ⟨_, rfl, _, _, rfl, rfl, (by show (0 : Int) < _; decide), _, rfl, p, _, _, _, rfl, rfl, SqL.of upd_same, by rfl, _, _, rfl, fun z => .inl ⟨_, rfl, _, rfl, _, _, rfl, rfl, m0, ?_⟩⟩⟩
            exact k _ _ (Int.emod_nonneg _ (by omega)) (Int.emod_lt_of_pos _ m0) ⟨cs, a + 1, b, c, upd_same, hq' _⟩ Keep.refl.upd
          · refine ⟨_, rfl, _, rfl, p, _, _, _, rfl, rfl, upd_same, by rfl, ?_⟩
            refine ⟨_, _, a + 1, cs[a], c, rfl, upd_same, ?_, Keep.refl.upd.upd⟩
            rw [upd_upd]
            exact hq' _
        · exact ⟨_, _, a, b, c, rfl, hp, hq, Keep.refl⟩
      · exact ⟨_, _, a, b, c, rfl, hp, hq, Keep.refl⟩
    · rintro σ H1 ⟨x, y, a, b, c, rfl, hp, hq, kp⟩
      have hq' : ∀ o, (upd H1 p o) q = some (.lst (cs.map V.int)) := fun o => by rw [upd_ne nqp]; exact hq
      refine ⟨_, rfl, p, _, _, _, rfl, rfl, SqL.of hp, by rfl, _, _, rfl, rfl, _, rfl, ?_⟩
      refine ite2 (fun _ => ?_) (fun _ => ?_)
      · refine ⟨_, rfl, p, _, _, _, rfl, rfl, SqL.of hp, by rfl, _, rfl, _, rfl, _, _, rfl, rfl, wide_div m0 m1 (by decide) (by decide), _, rfl, p, _, _, _, rfl, rfl, hp, by rfl, ?_⟩
        refine ⟨_, rfl, .inl ⟨_, rfl, _, rfl, _, _, rfl, rfl, m0, ?_⟩⟩
        exact k _ _ (Int.emod_nonneg _ (by omega)) (Int.emod_lt_of_pos _ m0) ⟨cs, a, _, c, upd_same, hq' _⟩ kp.upd
      · refine ⟨_, rfl, p, _, _, _, rfl, rfl, SqL.of hp, by rfl, _, _, rfl, rfl, .inl ⟨_, rfl, _, _, rfl, rfl, (by show (0 : Int) < _; decide), _, rfl, p, _, _, _, rfl, rfl, hp, by rfl, ?_⟩⟩
        refine ⟨_, rfl, p, _, _, _, rfl, rfl, SqL.of upd_same, by rfl, _, rfl, p, _, _, _, rfl, rfl, SqL.of upd_same, by rfl, _, _, rfl, fun z => .inl ⟨_, rfl, _, rfl, _, _, rfl, rfl, m0, ?_⟩⟩
        exact k _ _ (Int.emod_nonneg _ (by omega)) (Int.emod_lt_of_pos _ m0) ⟨cs, a, _, _, upd_same, hq' _⟩ kp.upd
/-- over enumerate(list), the list standing still -/
theorem for_enum {K : PySem.W.Frag} {a : Addr} {xs : List V} {g : TG} {tb : TS} {D : Ends} {σ : St} {H : Hp} (W : Nat → St → Hp → Prop) (start : W 0 σ H) (still : ∀ i σ H, W i σ H → SqL K H a xs)
    (turn : ∀ i x σ H T, xs[i]? = some x → W i σ H → H T = none → g (.ref T) σ (upd H T (.tup [.int (i : Nat), x])) fun σ2 H2 => tb { D with nx := W (i + 1), ct := W (i + 1), bk := D.nx } σ2 H2) (after : ∀ σ H, W xs.length σ H → D.nx σ H) :
    ∃ U : Nat → Nat → St → Hp → Prop, (∃ m, U 0 m σ H) ∧ ∀ i m σ H, U i m σ H → ((Ite K a).stop i H ∧ D.nx σ H) ∨ ((Ite K a).go i H ∧ ∃ N : St → Hp → Prop, (∀ σ' H', N σ' H' → ∃ m', m' < m ∧ U (i + 1) m' σ' H') ∧
      ∀ x H', (Ite K a).yld i H x H' → g x σ H' fun σ2 H2 => tb { D with nx := N, ct := N, bk := D.nx } σ2 H2) := by
  refine ⟨fun i m σ H => m + i = xs.length ∧ W i σ H, ⟨xs.length, by omega, start⟩, fun i m σ H u => ?_⟩
  obtain ⟨e, u⟩ := u
  cases m with
  | zero =>
    have e : i = xs.length := by omega
    subst e
    exact .inl ⟨⟨xs, still _ _ _ u, Nat.le_refl _⟩, after _ _ u⟩
  | succ m =>
    have lt : i < xs.length := by omega
    refine .inr ⟨⟨xs, xs[i], still _ _ _ u, List.getElem?_eq_getElem lt⟩, W (i + 1), fun σ' H' u' => ⟨m, Nat.lt_succ_self _, by omega, u'⟩, fun x H' y => ?_⟩
    obtain ⟨T, z, rfl, free, rfl, same⟩ := y
    exact turn i z σ H T (same xs (still _ _ _ u)) u free
def spHand (K : PySem.W.Frag) : Sp := fun vs H Q _ => ∃ (a : Addr) (ns : List Int), vs = [.ref a] ∧ SqL K H a (ns.map V.int) ∧ ns.length ≤ 63 ∧ ∀ (p q : Addr) (H' : Hp), H p = none → H q = none → q ≠ p → HandAt H' p q → Same H H' → Q (.ref p) H'
theorem sameUpd {H H1 : Hp} {p : Addr} {o : HO} (s : Same H H1) (h : H1 p = none) : Same H (upd H1 p o) := fun b u e => by
  have e1 := s b u e
  rw [upd_ne (ne_of_none e1 h)]
  exact e1
theorem item_int {ns : List Int} {i : Nat} {y : V} (h : (ns.map V.int)[i]? = some y) : ∃ z, y = V.int z ∧ ns[i]? = some z := by
  rw [List.getElem?_map] at h
  cases e : ns[i]? with
  | none => rw [e] at h; cases h
  | some z => rw [e] at h; exact ⟨z, (Option.some.inj h).symm, rfl⟩
theorem scHand : FnScope ["_law_script", "_law_total", "_law_k", "_law_cell"] ["_law_script"] (defScope sHand) := ⟨rfl, rfl, rfl, by decide +kernel, rfl, by decide +kernel, by decide +kernel⟩
theorem ok_hand {f : Addr} {fd : FuncData} (F : Fun K "_law_hand" "_law_hand" sHand f fd) (m : mg "_law_hand" = some (.ref f)) (T : Bl mg) : HasF P w K mg base "_law_hand" 1 ["_law_script"] (spHand K) := by
  refine ⟨f, fd, ?_, m, F.kp, F.binds fun _ _ _ _ _ _ us hl => match us, hl with | [_], _ => rfl⟩
  refine F.ok scHand (fun vs H Q E h => ?_) (fun cdv A outer s H vs Q E hr h => ?_)
  · obtain ⟨a, b, rfl, _⟩ := h
    rfl
  · obtain ⟨a, ns, rfl, hS, hl, k⟩ := h
    refine ⟨_, pss_cons (ps_set (i := 1) scHand.nd rfl (Or.inl rfl) pe_int)
      (pss_cons (ps_for PassesOwn.never rfl (pi_enum (by rfl) T.enumerate (pa_cons (pv 0) pa_nil)) (pg_tup rfl (pgs_cons (pg_name (i := 2) scHand.nd rfl (.inl rfl)) (pgs_cons (pg_name (i := 3) scHand.nd rfl (.inl rfl)) pgs_nil)))
        (pss_one (ps_set (i := 1) scHand.nd rfl (Or.inl rfl) (pe_op op_mod (pe_callTy call_int1 (by rfl) T.int (by decide +kernel) (pa_cons (pe_op op_add (pe_op op_mul (pv 1) pe_int) (pe_op op_mul (pe_callTy call_int1 (by rfl) T.int (by decide +kernel) (pa_cons (pv 3) pa_nil)) (pe_op op_add (pv 2) pe_int))) pa_nil)) pe_int))))
      (pss_one (ps_ret (pe_lst (pa_cons (pe_lc (own := [("_law_cell", 3)]) (g := gName 3) (tt := tYes) (by rfl) scHand.nd (pi_list (pv 0)) (blkOk_by (own := [("_law_cell", 3)]) (N := ["_law_script", "_law_total", "_law_k", "_law_cell"]) (sc := defScope sHand) (by decide +kernel))
          (fun _ _ _ _ _ => pg_name (i := 3) scHand.nd rfl (Or.inl rfl)) (fun _ _ _ _ _ => pts_nil) (fun _ _ _ _ _ => (pe_callB call_abs (by rfl) T.abs (by decide +kernel) (pa_cons (pe_callTy call_int1 (by rfl) T.int (by decide +kernel) (pa_cons (pv 3) pa_nil)) pa_nil))))
        (pa_cons pe_int (pa_cons pe_int (pa_cons (pv 1) pa_nil)))))))), ?_⟩
    refine ⟨_, rfl, a, _, rfl, hS, for_enum (K := K) (a := a) (xs := ns.map V.int) (fun i σ H2 => ∃ (t : Int) (x y : Option V), σ = [some (.ref a), some (.int t), x, y] ∧ Same H H2 ∧ True) ⟨_, _, _, rfl, Same.refl _, trivial⟩ (fun i σ H2 ⟨_, _, _, _, s2, _⟩ => s2.seq hS) ?_ ?_⟩
    · rintro i x σ H2 T hi ⟨t, c, d, rfl, s2, _⟩ free
      obtain ⟨z, rfl, hz⟩ := item_int hi
      have hlt : i < ns.length := (List.getElem?_eq_some_iff.mp hz).1
      refine ⟨T, _, rfl, SqT.of upd_same, rfl, _, _, rfl, _, _, rfl, rfl, ?_⟩
      refine ⟨_, rfl, _, _, rfl, rfl, .inr ⟨by decide, by decide⟩, _, rfl, .inl ⟨_, rfl, _, rfl, _, _, rfl, rfl, _, _, rfl, rfl, .inr ⟨by omega, by omega⟩, _, _, rfl, rfl, .inl ⟨_, rfl, _, _, rfl, rfl, (by show (0 : Int) < _; decide), ?_⟩⟩⟩
      exact ⟨_, _, _, rfl, sameUpd s2 free, trivial⟩
    · rintro σ H2 ⟨t, c, d, rfl, s2, _⟩
      have q : ∀ (b : Int) (l : List Int), (l ++ [b]).map V.int = l.map V.int ++ [V.int b] := fun b l => by rw [List.map_append]; rfl
      refine ⟨_, rfl, a, rfl, ⟨_, s2.seq hS⟩, fun D hD => lc_list (K := K) (a := a) (xs := ns.map V.int) (fun i H3 => Same H H3 ∧ ∃ cs : List Int, cs.length = i ∧ H3 D = some (.lst (cs.map V.int))) ⟨sameUpd s2 hD, [], rfl, upd_same⟩ (fun i H3 _ w => w.1.seq hS) ?_ ?_⟩
      · rintro i y H3 hi ⟨s3, cs, hc, hd⟩
        obtain ⟨z, rfl, hz⟩ := item_int hi
        have hlt : i < ns.length := (List.getElem?_eq_some_iff.mp hz).1
        refine ⟨rfl, ?_⟩
        refine ⟨_, rfl, .inl ⟨_, rfl, _, rfl, cs.map V.int, hd, small1000 (by rw [List.length_map]; omega), ?_⟩⟩
        have e : H D = none := s2.free hD
        refine ⟨fun b u e' => ?_, cs ++ [_], by rw [List.length_append, hc]; rfl, by rw [q]; exact upd_same⟩
        rw [upd_ne (ne_of_none e' e)]
        exact s3 b u e'
      · rintro H3 ⟨s3, cs, hc, hd⟩
        refine ⟨_, rfl, (by show 4 ≤ sizeLine; decide), fun p hp => ?_⟩
        have np : p ≠ D := fun e => by rw [e, hd] at hp; cases hp
        exact k p D _ (s3.free hp) (s2.free hD) np.symm ⟨cs, 0, 0, _, upd_same, by rw [upd_ne np.symm]; exact hd⟩ (sameUpd s3 hp)
/-- every sign a letter from a to z -/
def Low (z : Str) : Prop := ∀ c ∈ z.cps.toList, 97 ≤ c ∧ c ≤ 122
theorem abc_at : ∀ n : Fin 26, (Str.ofString "abcdefghijklmnopqrstuvwxyz").cps.toList[n.1]? = some (97 + n.1) := by decide +kernel
theorem abc_ix {z : Int} (h : 0 ≤ z) (h' : z < 26) : atI (Str.ofString "abcdefghijklmnopqrstuvwxyz").cps.toList z = some (97 + z.toNat) := by
  obtain ⟨n, rfl⟩ : ∃ n : Nat, z = n := ⟨z.toNat, by omega⟩
  exact atI_nat (abc_at ⟨n, by omega⟩)
theorem len_app (a b : Str) : (a ++ b).length = a.length + b.length := Array.size_append
theorem cps_app (a b : Str) : (a ++ b).cps.toList = a.cps.toList ++ b.cps.toList := Array.toList_append
theorem Low.app {a b : Str} (h : Low a) (h' : Low b) : Low (a ++ b) := fun c hc => by
  rw [cps_app] at hc
  rcases List.mem_append.mp hc with e | e
  · exact h c e
  · exact h' c e
theorem Low.one {n : Nat} (h : n < 26) : Low ⟨#[97 + n]⟩ := fun c hc => by
  have e : c = 97 + n := by simpa using hc
  omega
theorem Low.nil : Low (Str.ofString "") := fun c hc => by
  have e : (Str.ofString "").cps.toList = [] := by decide +kernel
  rw [e] at hc
  cases hc
def spOne : Sp := fun vs H Q _ => ∃ (p q r : Addr) (xs : List V), vs = [.ref p, .ref r] ∧ HandAt H p q ∧ H r = some (.lst xs) ∧ r ≠ p ∧ 0 < xs.length ∧ xs.length ≤ 1000 ∧
  ∀ (x : V) (H' : Hp), x ∈ xs → HandAt H' p q → Keep H H' p → Q x H'
def spWord : Sp := fun vs H Q _ => ∃ (p q : Addr) (m : Int), vs = [.ref p, .int m] ∧ HandAt H p q ∧ 0 < m ∧ m ≤ 10 ∧
  ∀ (z : Str) (H' : Hp), 0 < z.length → z.length ≤ m.toNat → Low z → HandAt H' p q → Keep H H' p → Q (.str z) H'
theorem scOne : FnScope ["_law_hand_here", "_law_rows"] ["_law_hand_here", "_law_rows"] (defScope sOne) := ⟨rfl, rfl, rfl, by decide +kernel, rfl, by decide +kernel, by decide +kernel⟩
theorem ok_one {f : Addr} {fd : FuncData} (F : Fun K "_law_one" "_law_one" sOne f fd) (m : mg "_law_one" = some (.ref f)) (T : Bl mg) (D : HasF P w K mg base "_law_draw" 2 ["_law_hand_here", "_law_many"] spDraw) : HasF P w K mg base "_law_one" 3 ["_law_hand_here", "_law_rows"] spOne := by
  refine ⟨f, fd, ?_, m, F.kp, F.binds fun _ _ _ _ _ _ us hl => match us, hl with | [_, _], _ => rfl⟩
  obtain ⟨f1, fd1, D⟩ := D
  refine F.ok scOne (fun vs H Q E h => ?_) (fun cdv A outer s H vs Q E hr h => ?_)
  · obtain ⟨a, b, c, d, rfl, _⟩ := h
    rfl
  · obtain ⟨p, q, r, xs, rfl, hp, hx, ne, h0, h9, k⟩ := h
    refine ⟨_, pss_one (ps_ret (pe_ix ix_list (pv 1) (pe_call D.G hr (by rfl) D.m D.kp D.b .nil pass0 (pa_cons (pv 0) (pa_cons (pe_callB call_len_seq (by rfl) T.len PySem.boot_len (pa_cons (pv 1) pa_nil)) pa_nil))) (fun _ _ => rfl))), ?_⟩
    have hz : xs.length < 2 ^ 200 := Nat.lt_of_le_of_lt h9 (by decide)
    refine ⟨_, rfl, _, rfl, _, rfl, r, _, rfl, .inl (SqL.of hx), p, q, _, rfl, hp, by omega, by rw [Int.natAbs_natCast]; exact hz, fun z H1 z0 z1 hp1 k1 => ?_⟩
    obtain ⟨n, rfl⟩ : ∃ n : Nat, z = n := ⟨z.toNat, by omega⟩
    have lt : n < xs.length := by omega
    exact ⟨r, xs, n, _, rfl, rfl, SqL.of (k1 r _ hx ne), atI_nat (List.getElem?_eq_getElem lt), k _ _ (List.getElem_mem lt) hp1 k1⟩
theorem scWord : FnScope ["_law_hand_here", "_law_most", "_law_word_here", "_law_k"] ["_law_hand_here", "_law_most"] (defScope sWord) := ⟨rfl, rfl, rfl, by decide +kernel, rfl, by decide +kernel, by decide +kernel⟩
theorem ok_word {f : Addr} {fd : FuncData} (F : Fun K "_law_word" "_law_word" sWord f fd) (m : mg "_law_word" = some (.ref f)) (T : Bl mg) (D : HasF P w K mg base "_law_draw" 2 ["_law_hand_here", "_law_many"] spDraw) : HasF P w K mg base "_law_word" 3 ["_law_hand_here", "_law_most"] spWord := by
  refine ⟨f, fd, ?_, m, F.kp, F.binds fun _ _ _ _ _ _ us hl => match us, hl with | [_, _], _ => rfl⟩
  obtain ⟨f1, fd1, D⟩ := D
  refine F.ok scWord (fun vs H Q E h => ?_) (fun cdv A outer s H vs Q E hr h => ?_)
  · obtain ⟨a, b, c, rfl, _⟩ := h
    rfl
  · obtain ⟨p, q, m, rfl, hp, m0, m1, k⟩ := h
    refine ⟨_, pss_cons (ps_set (i := 2) scWord.nd rfl (Or.inl rfl) pe_str)
      (pss_cons (ps_for PassesOwn.never rfl (pi_range1 (by rfl) T.range (pa_cons (pe_op op_add pe_int (pe_call D.G hr (by rfl) D.m D.kp D.b .nil pass0 (pa_cons (pv 0) (pa_cons (pv 1) pa_nil)))) pa_nil)) (pg_name (i := 3) scWord.nd rfl (.inl rfl))
        (pss_one (ps_set (i := 2) scWord.nd rfl (Or.inl rfl) (pe_op op_add_str (pv 2) (pe_ix ix_str pe_str (pe_call D.G hr (by rfl) D.m D.kp D.b .nil pass0 (pa_cons (pv 0) (pa_cons pe_int pa_nil))) (fun _ _ => rfl))))))
      (pss_one (ps_ret (pv 2)))), ?_⟩
    refine ⟨_, rfl, _, rfl, p, q, m, rfl, hp, m0, by omega, fun z H1 z0 z1 hp1 k1 => ?_⟩
    refine ⟨_, _, rfl, rfl, _, rfl, by omega, by omega, for_range (n := (1 + z).toNat) (fun i σ H2 => ∃ (t : Str) (x : Option V), σ = [some (.ref p), some (.int m), some (.str t), x] ∧ t.length = i ∧ Low t ∧ HandAt H2 p q ∧ Keep H H2 p)
      ⟨_, _, rfl, rfl, Low.nil, hp1, k1⟩ ?_ ?_⟩
    · rintro i σ H2 hi ⟨t, x, rfl, ht, lt, hp2, k2⟩
      refine ⟨_, rfl, _, rfl, p, q, 26, rfl, hp2, by decide, by decide, fun y H3 y0 y1 hp3 k3 => ?_⟩
      refine ⟨_, y, _, rfl, rfl, by decide, abc_ix y0 y1, _, _, rfl, rfl, ?_, ?_⟩
      · show t.length + 1 ≤ sizeLine
        exact small1000 (by omega)
      · exact ⟨_, _, rfl, by rw [len_app, ht]; rfl, lt.app (Low.one (by omega)), hp3, k2.trans k3⟩
    · rintro σ H2 ⟨t, x, rfl, ht, lt, hp2, k2⟩
      exact ⟨_, rfl, k t H2 (by omega) (by omega) lt hp2 k2⟩
/-- the kinds of things that are asked -/
inductive Kd (H : Hp) : V → String → Prop where
  | non : Kd H .non "NoneType"
  | bl (b : Bool) : Kd H (.bl b) "bool"
  | int (i : Int) : Kd H (.int i) "int"
  | str (z : Str) : Kd H (.str z) "str"
  | lst (a : Addr) (xs : List V) (h : H a = some (.lst xs)) : Kd H (.ref a) "list"
  | tup (a : Addr) (xs : List V) (h : H a = some (.tup xs)) : Kd H (.ref a) "tuple"
  | dct (a : Addr) (xs : List (Key × V)) (h : H a = some (.dK xs)) : Kd H (.ref a) "dict"
theorem Kd.ty {K : PySem.W.Frag} {H : Hp} {x : V} {n : String} (k : Kd H x n) : TyX K H x (.type n) := by
  cases k with
  | non => exact .base .non
  | bl b => exact .base (.bl _)
  | int i => exact .base (.int _)
  | str z => exact .base (.str _)
  | lst a xs h => exact .base (.lst h)
  | tup a xs h => exact .base (.tup h)
  | dct a xs h => exact .base (.dK h)
theorem Kd.kits {H : Hp} {x : V} {n : String} (k : Kd H x n) : n ∈ ["NoneType", "bool", "int", "str", "list", "tuple", "dict"] := by cases k <;> decide
structure Bm (mg : Str → Option Value) : Prop where
  isinstance : mg "isinstance" = none
  str : mg "str" = none
  bool : mg "bool" = none
  list : mg "list" = none
  tuple : mg "tuple" = none
  longest : ∃ t, mg "LONGEST_LABEL" = some (.int 6 t)
theorem kit_int {n : String} (h : n ∈ ["NoneType", "bool", "int", "str", "list", "tuple", "dict"]) : kitB n "int" = some (n == "int" || n == "bool") := by
  simp only [List.mem_cons, List.not_mem_nil, or_false] at h
  rcases h with h | h | h | h | h | h | h <;> (subst h; decide +kernel)
theorem kit_bool {n : String} (h : n ∈ ["NoneType", "bool", "int", "str", "list", "tuple", "dict"]) : kitB n "bool" = some (n == "bool") := by
  simp only [List.mem_cons, List.not_mem_nil, or_false] at h
  rcases h with h | h | h | h | h | h | h <;> (subst h; decide +kernel)
theorem kit_str {n : String} (h : n ∈ ["NoneType", "bool", "int", "str", "list", "tuple", "dict"]) : kitB n "str" = some (n == "str") := by
  simp only [List.mem_cons, List.not_mem_nil, or_false] at h
  rcases h with h | h | h | h | h | h | h <;> (subst h; decide +kernel)
theorem kit_list {n : String} (h : n ∈ ["NoneType", "bool", "int", "str", "list", "tuple", "dict"]) : kitB n "list" = some (n == "list") := by
  simp only [List.mem_cons, List.not_mem_nil, or_false] at h
  rcases h with h | h | h | h | h | h | h <;> (subst h; decide +kernel)
theorem kit_tuple {n : String} (h : n ∈ ["NoneType", "bool", "int", "str", "list", "tuple", "dict"]) : kitB n "tuple" = some (n == "tuple") := by
  simp only [List.mem_cons, List.not_mem_nil, or_false] at h
  rcases h with h | h | h | h | h | h | h <;> (subst h; decide +kernel)
/-- a whole number from lo to hi -/
def wholeV (x : V) (lo hi : Int) : Bool := match x with
  | .int i => decide (lo ≤ i) && decide (i ≤ hi)
  | _ => false
def spWhole : Sp := fun vs H Q _ => ∃ (x : V) (n : String) (lo hi : Int), vs = [x, .int lo, .int hi] ∧ Kd H x n ∧ Q (.bl (wholeV x lo hi)) H
theorem scWhole : FnScope ["thing", "low", "high"] ["thing", "low", "high"] (defScope sWhole) := ⟨rfl, rfl, rfl, by decide +kernel, rfl, by decide +kernel, by decide +kernel⟩
theorem ok_whole {f : Addr} {fd : FuncData} (F : Fun K "is_whole" "is_whole" sWhole f fd) (m : mg "is_whole" = some (.ref f)) (T : Bl mg) (B : Bm mg) : HasF P w K mg base "is_whole" 1 ["thing", "low", "high"] spWhole := by
  refine ⟨f, fd, ?_, m, F.kp, F.binds fun _ _ _ _ _ _ us hl => match us, hl with | [_, _, _], _ => rfl⟩
  refine F.ok scWhole (fun vs H Q E h => ?_) (fun cdv A outer s H vs Q E hr h => ?_)
  · obtain ⟨a, b, c, d, rfl, _⟩ := h
    rfl
  · obtain ⟨x, n, lo, hi, rfl, hk, k⟩ := h
    refine ⟨_, pss_one (ps_ret (pe_and (pe_callB call_isi (by rfl) B.isinstance (by decide +kernel) (pa_cons (pv 0) (pa_cons (pe_bltn (v := .ty "int") (by rfl) T.int (by decide +kernel) rfl) pa_nil))) (pe_and (pe_not (pe_callB call_isi (by rfl) B.isinstance (by decide +kernel) (pa_cons (pv 0) (pa_cons (pe_bltn (v := .ty "bool") (by rfl) B.bool (by decide +kernel) rfl) pa_nil)))) (pe_one (pe_chain op_le op_le (pv 1) (pv 0) (pv 2)))))), ?_⟩
    refine ⟨_, rfl, x, _, _, _, _, rfl, .ty _, hk.ty, kit_ty (kit_int hk.kits), _, rfl, ?_⟩
    cases hk with
    | int i =>
      refine iteT ⟨_, rfl, .int i, _, _, _, _, rfl, .ty _, (Kd.int (H := H) i).ty, kit_ty (kit_bool (Kd.int (H := H) i).kits), _, rfl, _, rfl, ?_⟩
      refine iteT ⟨_, rfl, _, rfl, _, _, rfl, rfl, _, rfl, ?_⟩
      refine ite2 (fun h1 => ?_) (fun h1 => ?_)
      · have h1 : lo ≤ i := of_decide_eq_true h1
        refine ⟨_, rfl, _, _, rfl, rfl, ?_⟩
        have e : wholeV (.int i) lo hi = decide (i ≤ hi) := by simp [wholeV, h1]
        rw [e] at k
        exact k
      · have h1 : ¬ lo ≤ i := fun z => h1 (decide_eq_true z)
        have e : wholeV (.int i) lo hi = false := by simp [wholeV, h1]
        rw [e] at k
        exact k
    | bl b =>
      refine iteT ⟨_, rfl, .bl b, _, _, _, _, rfl, .ty _, (Kd.bl (H := H) b).ty, kit_ty (kit_bool (Kd.bl (H := H) b).kits), _, rfl, _, rfl, ?_⟩
      exact iteF k
    | non => exact iteF k
    | str z => exact iteF k
    | lst a xs h => exact iteF k
    | tup a xs h => exact iteF k
    | dct a xs h => exact iteF k
/-! labels -/
def isLow (c : Nat) : Bool := decide (97 ≤ c) && decide (c ≤ 122)
def isLab (z : Str) : Bool := decide (1 ≤ z.length) && (decide (z.length ≤ 6) && z.cps.toList.all isLow)
def labV (x : V) : Bool := match x with
  | .str z => isLab z
  | _ => false
theorem low_alpha : ∀ n : Fin 128, isLow n.1 = (Unicode.isAlpha n.1 && !(Unicode.isUpper n.1 || Unicode.isTitle n.1)) := by decide +kernel
theorem low_lower : ∀ n : Fin 128, isLow n.1 = true → Unicode.isLower n.1 = true := by decide +kernel
theorem low_small {c : Nat} (h : isLow c = true) : c < 128 := by
  simp only [isLow, Bool.and_eq_true, decide_eq_true_eq] at h
  omega
theorem three (z : Str) (h : 1 ≤ z.length) : (PySem.Txt.isascii z && (PySem.Txt.isalpha z && PySem.Txt.islower z)) = z.cps.toList.all isLow := by
  have hl : z.cps.toList.length = z.length := by simp [Str.length]
  unfold PySem.Txt.isascii PySem.Txt.isalpha PySem.Txt.islower
  rw [← Array.all_toList, ← Array.all_toList, ← Array.any_toList, ← Array.any_toList]
  generalize z.cps.toList = l at hl
  cases e : l.all isLow with
  | true =>
    rw [List.all_eq_true] at e
    have a1 : l.all (fun c => decide (c < 128)) = true := List.all_eq_true.mpr fun c hc => decide_eq_true (low_small (e c hc))
    have a2 : l.all Unicode.isAlpha = true := List.all_eq_true.mpr fun c hc => by
      have q := low_alpha ⟨c, low_small (e c hc)⟩
      rw [show isLow c = true from e c hc] at q
      exact (Bool.and_eq_true_iff.mp q.symm).1
    have a3 : l.any Unicode.isLower = true := by
      cases l with
      | nil => simp only [List.length_nil] at hl; omega
      | cons c l => exact List.any_eq_true.mpr ⟨c, List.mem_cons_self, low_lower ⟨c, low_small (e c List.mem_cons_self)⟩ (e c List.mem_cons_self)⟩
    have a4 : (l.any fun c => Unicode.isUpper c || Unicode.isTitle c) = false := List.any_eq_false.mpr fun c hc => by
      have q := low_alpha ⟨c, low_small (e c hc)⟩
      rw [show isLow c = true from e c hc] at q
      have q2 := (Bool.and_eq_true_iff.mp q.symm).2
      intro z
      rw [z] at q2
      cases q2
    rw [a1, a2, a3, a4]
    have h' : decide (z.length > 0) = true := decide_eq_true (by omega)
    rw [h']
    rfl
  | false =>
    obtain ⟨c, hc, hn⟩ := List.all_eq_false.mp e
    cases a1 : l.all (fun c => decide (c < 128)) with
    | false => rfl
    | true =>
      cases a2 : l.all Unicode.isAlpha with
      | false => simp
      | true =>
        have b1 : c < 128 := of_decide_eq_true (List.all_eq_true.mp a1 c hc)
        have b2 : Unicode.isAlpha c = true := List.all_eq_true.mp a2 c hc
        have q := low_alpha ⟨c, b1⟩
        simp only [b2, Bool.true_and] at q
        have q1 : isLow c = false := by
          cases z : isLow c
          · rfl
          · exact absurd z hn
        rw [q1] at q
        have a4 : (l.any fun c => Unicode.isUpper c || Unicode.isTitle c) = true := List.any_eq_true.mpr ⟨c, hc, by
          cases z : (Unicode.isUpper c || Unicode.isTitle c)
          · rw [z] at q; cases q
          · rfl⟩
        rw [a4]
        simp
def spLabel : Sp := fun vs H Q _ => ∃ (x : V) (n : String), vs = [x] ∧ Kd H x n ∧ (∀ z, x = .str z → z.length ≤ sizeLine) ∧ Q (.bl (labV x)) H
theorem scLabel : FnScope ["thing"] ["thing"] (defScope sLabel) := ⟨rfl, rfl, rfl, by decide +kernel, rfl, by decide +kernel, by decide +kernel⟩
theorem ok_label {f : Addr} {fd : FuncData} (F : Fun K "is_label" "is_label" sLabel f fd) (m : mg "is_label" = some (.ref f)) (T : Bl mg) (B : Bm mg) : HasF P w K mg base "is_label" 1 ["thing"] spLabel := by
  refine ⟨f, fd, ?_, m, F.kp, F.binds fun _ _ _ _ _ _ us hl => match us, hl with | [_], _ => rfl⟩
  obtain ⟨tL, mL⟩ := B.longest
  refine F.ok scLabel (fun vs H Q E h => ?_) (fun cdv A outer s H vs Q E hr h => ?_)
  · obtain ⟨a, b, rfl, _⟩ := h
    rfl
  · obtain ⟨x, n, rfl, hk, hz, k⟩ := h
    refine ⟨_, pss_cons (ps_if (PW.pt (pw_or (pt_not (pt_val (pe_callB call_isi (by rfl) B.isinstance (by decide +kernel) (pa_cons (pv 0) (pa_cons (pe_bltn (v := .ty "str") (by rfl) B.str (by decide +kernel) rfl) pa_nil))))) (pw_or1 (pt_not (pt_chain op_le op_le pe_int (pe_callB call_len_str (by rfl) T.len PySem.boot_len (pa_cons (pv 0) pa_nil)) (pe_glob (v := .int 6) rfl mL ⟨_, rfl⟩)))))) (pss_one (ps_ret pe_bl)) pss_nil)
      (pss_one (ps_ret (pe_and (pe_m0 PySem.F.slot_str_isascii PySem.F.type_str_isascii mt_isascii (pv 0)) (pe_and (pe_m0 PySem.F.slot_str_isalpha PySem.F.type_str_isalpha mt_isalpha (pv 0)) (pe_one (pe_m0 PySem.F.slot_str_islower PySem.F.type_str_islower mt_islower (pv 0))))))), ?_⟩
    refine ⟨_, rfl, x, _, _, _, _, rfl, .ty _, hk.ty, kit_ty (kit_str hk.kits), _, rfl, ?_⟩
    cases hk with
    | str z =>
      have hz := hz z rfl
      refine iteF ?_
      refine ⟨_, rfl, z, rfl, hz, _, _, rfl, rfl, _, rfl, ?_⟩
      refine ite2 (fun h1 => ?_) (fun h1 => ?_)
      · have h1 : (1 : Int) ≤ (z.length : Nat) := of_decide_eq_true h1
        have h1' : 1 ≤ z.length := by omega
        refine ⟨_, _, rfl, rfl, _, rfl, ?_⟩
        refine ite2 (fun h2 => ?_) (fun h2 => ?_)
        · have h2 : ¬ (z.length : Int) ≤ 6 := fun e => by rw [decide_eq_true e] at h2; cases h2
          have e : labV (.str z) = false := by
            show isLab z = false
            unfold isLab
            rw [decide_eq_false (show ¬ z.length ≤ 6 by omega), Bool.false_and, Bool.and_false]
          rw [e] at k
          exact k
        · have h2 : (z.length : Int) ≤ 6 := Classical.byContradiction fun e => h2 (by rw [decide_eq_false e]; rfl)
          have e : labV (.str z) = (PySem.Txt.isascii z && (PySem.Txt.isalpha z && PySem.Txt.islower z)) := by
            rw [three z h1']
            show isLab z = _
            unfold isLab
            rw [decide_eq_true h1', decide_eq_true (show z.length ≤ 6 by omega), Bool.true_and, Bool.true_and]
          rw [e] at k
          refine ⟨_, rfl, ⟨_, rfl⟩, _, rfl, rfl, trivial, _, rfl, ?_⟩
          cases e1 : PySem.Txt.isascii z with
          | false => rw [e1] at k; exact iteF k
          | true =>
            rw [e1, Bool.true_and] at k
            refine iteT ⟨_, rfl, ⟨_, rfl⟩, _, rfl, rfl, trivial, _, rfl, ?_⟩
            cases e2 : PySem.Txt.isalpha z with
            | false => rw [e2] at k; exact iteF k
            | true =>
              rw [e2, Bool.true_and] at k
              exact iteT ⟨_, rfl, ⟨_, rfl⟩, _, rfl, rfl, trivial, k⟩
      · have h1 : ¬ (1 : Int) ≤ (z.length : Nat) := fun e => h1 (decide_eq_true e)
        have e : labV (.str z) = false := by
          show isLab z = false
          unfold isLab
          rw [decide_eq_false (show ¬ 1 ≤ z.length by omega), Bool.false_and]
        rw [e] at k
        exact ⟨_, rfl, iteT k⟩
    | int i => exact iteT k
    | bl b => exact iteT k
    | non => exact iteT k
    | lst a xs h => exact iteT k
    | tup a xs h => exact iteT k
    | dct a xs h => exact iteT k
def seqV (n : String) : Bool := n == "list" || n == "tuple"
def spSeq : Sp := fun vs H Q _ => ∃ (x : V) (n : String), vs = [x] ∧ Kd H x n ∧ ∀ H', Same H H' → Q (.bl (seqV n)) H'
theorem scSeq : FnScope ["thing"] ["thing"] (defScope sSeq) := ⟨rfl, rfl, rfl, by decide +kernel, rfl, by decide +kernel, by decide +kernel⟩
theorem kit_seq {K : PySem.W.Frag} {n : String} (h : n ∈ ["NoneType", "bool", "int", "str", "list", "tuple", "dict"]) : PySem.W.kitAny K (.type n) [.type "list", .type "tuple"] = some (seqV n) := by
  refine kitAny_cons (kit_ty (kit_list h)) (fun e => kitAny_cons (kit_ty (kit_tuple h)) (fun e2 => ?_) (fun e2 => ?_)) (fun e => ?_)
  · unfold seqV; rw [e, e2]; exact kitAny_nil
  · unfold seqV; rw [e, e2]; rfl
  · unfold seqV; rw [e]; rfl
theorem Kd.keep {H H' : Hp} {x : V} {n : String} (k : Kd H x n) (s : Same H H') : Kd H' x n := by
  cases k with
  | non => exact .non
  | bl b => exact .bl b
  | int i => exact .int i
  | str z => exact .str z
  | lst a xs h => exact .lst a xs (s _ _ h)
  | tup a xs h => exact .tup a xs (s _ _ h)
  | dct a xs h => exact .dct a xs (s _ _ h)
theorem ok_seq {f : Addr} {fd : FuncData} (F : Fun K "is_sequence" "is_sequence" sSeq f fd) (m : mg "is_sequence" = some (.ref f)) (B : Bm mg) : HasF P w K mg base "is_sequence" 1 ["thing"] spSeq := by
  refine ⟨f, fd, ?_, m, F.kp, F.binds fun _ _ _ _ _ _ us hl => match us, hl with | [_], _ => rfl⟩
  refine F.ok scSeq (fun vs H Q E h => ?_) (fun cdv A outer s H vs Q E hr h => ?_)
  · obtain ⟨a, b, rfl, _⟩ := h
    rfl
  · obtain ⟨x, n, rfl, hk, k⟩ := h
    refine ⟨_, pss_one (ps_ret (pe_callB call_isiT (by rfl) B.isinstance (by decide +kernel) (pa_cons (pv 0) (pa_cons (pe_tup (pa_cons (pe_bltn (v := .ty "list") (by rfl) B.list (by decide +kernel) rfl) (pa_cons (pe_bltn (v := .ty "tuple") (by rfl) B.tuple (by decide +kernel) rfl) pa_nil))) pa_nil)))), ?_⟩
    refine ⟨_, rfl, by decide, fun t ht => ?_⟩
    exact ⟨x, t, _, _, _, _, rfl, upd_same, .cons (.ty _) (.cons (.ty _) .nil), (hk.keep (sameUpd (Same.refl _) ht)).ty, kit_seq hk.kits, k _ (sameUpd (Same.refl _) ht)⟩
def cV (c : Nat) : V := .str (SX.S [c])
theorem map_cV (l : List Nat) : l.map cV = (l.map fun c => SX.S [c]).map V.str := by rw [List.map_map]; rfl
theorem keepUpd {H H1 : Hp} {p a : Addr} {o : HO} (k : Keep H H1 p) (h : H a = none) : Keep H (upd H1 a o) p := fun b u e ne => by
  rw [upd_ne (ne_of_none e h)]
  exact k b u e ne
theorem HandAt.upd {H : Hp} {p q a : Addr} {o : HO} (h : HandAt H p q) (n1 : a ≠ p) (n2 : a ≠ q) : HandAt (upd H a o) p q := by
  obtain ⟨cs, x, b, c, h1, h2⟩ := h
  exact ⟨cs, x, b, c, by rw [upd_ne n1.symm]; exact h1, by rw [upd_ne n2.symm]; exact h2⟩
theorem HandAt.ap {H : Hp} {p q a : Addr} (h : HandAt H p q) (ha : H a = none) : a ≠ p := by
  obtain ⟨cs, x, b, c, h1, h2⟩ := h
  exact (ne_of_none h1 ha).symm
theorem HandAt.aq {H : Hp} {p q a : Addr} (h : HandAt H p q) (ha : H a = none) : a ≠ q := by
  obtain ⟨cs, x, b, c, h1, h2⟩ := h
  exact (ne_of_none h2 ha).symm
theorem HandAt.same {H H' : Hp} {p q : Addr} (h : HandAt H p q) (s : Same H H') : HandAt H' p q := by
  obtain ⟨cs, x, b, c, h1, h2⟩ := h
  exact ⟨cs, x, b, c, s _ _ h1, s _ _ h2⟩
theorem Same.keep {H H' : Hp} {p : Addr} (s : Same H H') : Keep H H' p := fun b o e _ => s b o e
/-- texts as data -/
def dS (ys : List Str) : List PyData := ys.map PyData.str
theorem dp_strs {K : PySem.W.Frag} {H : Hp} : ∀ ys : List Str, DpAll K H (ys.map V.str) (dS ys)
  | [] => .nil
  | y :: ys => .cons (.str y) (dp_strs ys)
def Ok (ys : List Str) : Prop := ∀ y ∈ ys, PyData.strOk y = true
theorem low_ok {z : Str} (h : Low z) : PyData.strOk z = true := by
  unfold PyData.strOk
  rw [← Array.all_toList]
  exact List.all_eq_true.mpr fun c hc => decide_eq_true (by have := h c hc; omega)
theorem lay_strs {ys : List Str} (h : Ok ys) : PyData.canLayAll0 (dS ys) = true := by
  unfold dS
  rw [PyProof.Rows.canLayAll_strs']
  exact List.all_eq_true.mpr h
theorem deep_strs : ∀ ys : List Str, PyData.depthAll (dS ys) ≤ 1
  | [] => Nat.zero_le _
  | y :: ys => by
    have ih := deep_strs ys
    show max (PyData.depth (.str y)) (PyData.depthAll (dS ys)) ≤ 1
    have e : PyData.depth (.str y) = 0 := rfl
    omega
theorem shaped_list {ys : List Str} (ok : Ok ys) : SeqAt.shaped (.list (dS ys)) = true := by
  have h := lay_strs ok
  have h2 := deep_strs ys
  have h3 : PyData.depth (.list (dS ys)) ≤ 64 := by
    show PyData.depthAll (dS ys) + 1 ≤ 64
    omega
  unfold SeqAt.shaped
  rw [decide_eq_true h3, Bool.and_true]
  exact h
/-- a comprehension over a text's signs -/
theorem lc_str {z : Str} {g : TG} {tt : TT} {te : TE} {vs : List Nat} {σ : St} {H1 : Hp} {D : Addr} {Qd : Hp → Prop} (W : Nat → Hp → Prop) (start : W 0 (upd H1 D (.lst [])))
    (turn : ∀ i c H, z.cps[i]? = some c → W i H → g (.str ⟨#[c]⟩) (wipe σ vs) H fun σ2 H2 => wipe σ2 vs = wipe σ vs ∧ tt σ2 H2 fun b H3 =>
      if b = true then te σ2 H3 fun y H4 => ∃ acc, H4 D = some (.lst acc) ∧ acc.length < sizeLine ∧ W (i + 1) (upd H4 D (.lst (acc ++ [y]))) else W (i + 1) H3) (after : ∀ H, W z.cps.size H → Qd H) :
    ∃ U : Nat → Nat → Hp → Prop, (∃ m, U 0 m (upd H1 D (.lst []))) ∧ ∀ i m H, U i m H → ((Its z).stop i H ∧ Qd H) ∨ ((Its z).go i H ∧ ∃ Nx : Hp → Prop, (∀ H', Nx H' → ∃ m', m' < m ∧ U (i + 1) m' H') ∧
      ∀ x H', (Its z).yld i H x H' → g x (wipe σ vs) H' fun σ2 H2 => wipe σ2 vs = wipe σ vs ∧ tt σ2 H2 fun b H3 => if b = true then te σ2 H3 fun y H4 => ∃ acc, H4 D = some (.lst acc) ∧ acc.length < sizeLine ∧ Nx (upd H4 D (.lst (acc ++ [y]))) else Nx H3) := by
  refine ⟨fun i m H => m + i = z.cps.size ∧ W i H, ⟨z.cps.size, by omega, start⟩, fun i m H u => ?_⟩
  obtain ⟨e, u⟩ := u
  cases m with
  | zero =>
    obtain rfl : i = z.cps.size := by omega
    exact .inl ⟨Nat.le_refl _, after _ u⟩
  | succ m =>
    have lt : i < z.cps.size := by omega
    refine .inr ⟨lt, W (i + 1), fun H' u' => ⟨m, Nat.lt_succ_self _, by omega, u'⟩, fun x H' y => ?_⟩
    obtain ⟨rfl, c, hc, rfl⟩ := y
    exact turn i c _ hc u
def spLLab : Sp := fun vs H Q _ => ∃ (x : V) (n : String), vs = [x] ∧ Kd H x n ∧ (∀ z, x = .str z → PyData.strOk z = true ∧ z.length ≤ 900) ∧ ∀ H', Same H H' → Q (.bl (labV x)) H'
theorem eqv_nil : ∀ ys : List Str, PyData.eqv (.list (dS ys)) (.list []) = ys.isEmpty
  | [] => rfl
  | y :: ys => rfl
/-- the signs that are no letters from a to z -/
def bad (l : List Nat) : List Nat := l.filter fun c => !isLow c
theorem bad_nil (l : List Nat) : (bad l).isEmpty = l.all isLow := by
  unfold bad
  induction l with
  | nil => rfl
  | cons c l ih =>
    rw [List.filter_cons, List.all_cons, ← ih]
    cases isLow c <;> rfl
theorem abc_in : ∀ c, decide (c ∈ (Str.ofString "abcdefghijklmnopqrstuvwxyz").cps.toList) = isLow c := fun c => by
  have e : (Str.ofString "abcdefghijklmnopqrstuvwxyz").cps.toList = (List.range 26).map (97 + ·) := by decide +kernel
  rw [e]
  unfold isLow
  by_cases h : c ∈ (List.range 26).map (97 + ·)
  · obtain ⟨j, hj, rfl⟩ := List.mem_map.mp h
    have := List.mem_range.mp hj
    rw [decide_eq_true h, decide_eq_true (show 97 ≤ 97 + j by omega), decide_eq_true (show 97 + j ≤ 122 by omega)]
    rfl
  · rw [decide_eq_false h]
    by_cases h1 : 97 ≤ c
    · have h2 : ¬ c ≤ 122 := fun h2 => h (List.mem_map.mpr ⟨c - 97, List.mem_range.mpr (by omega), by omega⟩)
      rw [decide_eq_false h2, Bool.and_false]
    · rw [decide_eq_false h1, Bool.false_and]
theorem scLLabel : FnScope ["_law_thing", "_law_letter"] ["_law_thing"] (defScope sLLabel) := ⟨rfl, rfl, rfl, by decide +kernel, rfl, by decide +kernel, by decide +kernel⟩
theorem ok_llab {f : Addr} {fd : FuncData} (F : Fun K "_law_label" "_law_label" sLLabel f fd) (m : mg "_law_label" = some (.ref f)) (T : Bl mg) (B : Bm mg) : HasF P w K mg base "_law_label" 1 ["_law_thing"] spLLab := by
  refine ⟨f, fd, ?_, m, F.kp, F.binds fun _ _ _ _ _ _ us hl => match us, hl with | [_], _ => rfl⟩
  refine F.ok scLLabel (fun vs H Q E h => ?_) (fun cdv A outer s H vs Q E hr h => ?_)
  · obtain ⟨a, b, rfl, _⟩ := h
    rfl
  · obtain ⟨x, n, rfl, hk, hz, k⟩ := h
    refine ⟨_, pss_cons (ps_if (PW.pt (pw_or (pt_not (pt_val (pe_callB call_isi (by rfl) B.isinstance (by decide +kernel) (pa_cons (pv 0) (pa_cons (pe_bltn (v := .ty "str") (by rfl) B.str (by decide +kernel) rfl) pa_nil))))) (pw_or1 (pt_not (pt_chain op_le op_le pe_int (pe_callB call_len_str (by rfl) T.len PySem.boot_len (pa_cons (pv 0) pa_nil)) pe_int))))) (pss_one (ps_ret pe_bl)) pss_nil)
      (pss_one (ps_ret (pe_cmpR (op_eqD hr.units) (pe_lc (own := [("_law_letter", 1)]) (g := gName 1) (by rfl) scLLabel.nd (pi_str (pv 0)) (blkOk_by (own := [("_law_letter", 1)]) (N := ["_law_thing", "_law_letter"]) (sc := defScope sLLabel) (by decide +kernel))
          (fun _ _ _ _ _ => pg_name (i := 1) scLLabel.nd rfl (Or.inl rfl)) (fun _ _ _ _ _ => pts_one (pt_cmpR op_notIn_sign (pv 1) pe_str (by rfl))) (fun _ _ _ _ _ => pv 1)) (pe_lst pa_nil) (nomark _)))), ?_⟩
    refine ⟨_, rfl, x, _, _, _, _, rfl, .ty _, hk.ty, kit_ty (kit_str hk.kits), _, rfl, ?_⟩
    cases hk with
    | str z =>
      obtain ⟨hok, hz⟩ := hz z rfl
      refine iteF ?_
      refine ⟨_, rfl, z, rfl, Nat.le_of_lt (small1000 (by omega)), _, _, rfl, rfl, _, rfl, ?_⟩
      refine ite2 (fun h1 => ?_) (fun h1 => ?_)
      · have h1 : (1 : Int) ≤ (z.length : Nat) := of_decide_eq_true h1
        have h1' : 1 ≤ z.length := by omega
        refine ⟨_, _, rfl, rfl, _, rfl, ?_⟩
        refine ite2 (fun h2 => ?_) (fun h2 => ?_)
        · have h2 : ¬ (z.length : Int) ≤ 6 := fun e => by rw [decide_eq_true e] at h2; cases h2
          have e : labV (.str z) = false := by
            show isLab z = false
            unfold isLab
            rw [decide_eq_false (show ¬ z.length ≤ 6 by omega), Bool.false_and, Bool.and_false]
          rw [e] at k
          exact k H (Same.refl _)
        · have h2 : (z.length : Int) ≤ 6 := Classical.byContradiction fun e => h2 (by rw [decide_eq_false e]; rfl)
          have e : labV (.str z) = z.cps.toList.all isLow := by
            show isLab z = _
            unfold isLab
            rw [decide_eq_true h1', decide_eq_true (show z.length ≤ 6 by omega), Bool.true_and, Bool.true_and]
          rw [e] at k
          have tk : ∀ i c, z.cps[i]? = some c → bad (z.cps.toList.take (i + 1)) = bad (z.cps.toList.take i) ++ (if isLow c then [] else [c]) := fun i c hc => by
            unfold bad
            rw [List.take_add_one, Array.getElem?_toList, hc, List.filter_append]
            cases q : isLow c <;> simp [q]
          have sz : z.cps.toList.take z.cps.size = z.cps.toList := by rw [List.take_of_length_le (by simp)]
          refine ⟨_, rfl, z, rfl, fun D hD => lc_str (z := z) (fun i H3 => Same H H3 ∧ H3 D = some (.lst ((bad (z.cps.toList.take i)).map cV))) ⟨sameUpd (Same.refl _) hD, upd_same⟩ ?_ ?_⟩
          · rintro i c H3 hc ⟨s3, hd⟩
            have hi : i < z.cps.size := (Array.getElem?_eq_some_iff.mp hc).1
            have hz2 : z.cps.size = z.length := rfl
            have t := tk i c hc
            refine ⟨rfl, _, rfl, c, _, rfl, rfl, _, rfl, ?_⟩
            rw [abc_in]
            cases q : isLow c with
            | true =>
              rw [q] at t
              refine (if_neg (by decide)).mpr ⟨s3, ?_⟩
              rw [t]
              exact hd.trans (by simp)
            | false =>
              rw [q] at t
              refine (if_pos (by decide)).mpr ⟨_, rfl, _, hd, small1000 ?_, ?_, ?_⟩
              · rw [List.length_map]
                have l1 : (bad (z.cps.toList.take i)).length ≤ (z.cps.toList.take i).length := List.length_filter_le _ _
                rw [List.length_take] at l1
                omega
              · intro b u e
                rw [upd_ne (ne_of_none e hD)]
                exact s3 b u e
              · rw [upd_same, t]
                simp [cV]
          · rintro H3 ⟨s3, hd⟩
            rw [sz] at hd
            refine ⟨by decide, fun p hp => ?_⟩
            have npd : D ≠ p := ne_of_none hd hp
            have ok : Ok ((bad z.cps.toList).map fun c => SX.S [c]) := fun y hy => by
              obtain ⟨c, hc, rfl⟩ := List.mem_map.mp hy
              have hc2 : c ∈ z.cps.toList := (List.mem_filter.mp hc).1
              unfold PyData.strOk at hok ⊢
              rw [← Array.all_toList] at hok
              have := List.all_eq_true.mp hok c hc2
              simpa using this
            refine ⟨.list (dS ((bad z.cps.toList).map fun c => SX.S [c])), .list [], .lst (SqL.of (xs := ((bad z.cps.toList).map fun c => SX.S [c]).map V.str) (by rw [upd_ne npd, ← map_cV]; exact hd)) (dp_strs _), .lst (SqL.of upd_same) .nil, shaped_list ok, by decide, ?_⟩
            rw [eqv_nil]
            have e2 : ((bad z.cps.toList).map fun c => SX.S [c]).isEmpty = z.cps.toList.all isLow := by rw [List.isEmpty_map, bad_nil]
            rw [e2]
            exact k _ (sameUpd s3 hp)
      · have h1 : ¬ (1 : Int) ≤ (z.length : Nat) := fun e => h1 (decide_eq_true e)
        have e : labV (.str z) = false := by
          show isLab z = false
          unfold isLab
          rw [decide_eq_false (show ¬ 1 ≤ z.length by omega), Bool.false_and]
        rw [e] at k
        exact ⟨_, rfl, iteT (k H (Same.refl _))⟩
    | int i => exact iteT (k H (Same.refl _))
    | bl b => exact iteT (k H (Same.refl _))
    | non => exact iteT (k H (Same.refl _))
    | lst a xs h => exact iteT (k H (Same.refl _))
    | tup a xs h => exact iteT (k H (Same.refl _))
    | dct a xs h => exact iteT (k H (Same.refl _))
def Fine (z : Str) : Prop := PyData.strOk z = true ∧ z.length ≤ 40
def spOdd : Sp := fun vs H Q _ => ∃ p q : Addr, vs = [.ref p] ∧ HandAt H p q ∧ ∀ (x : V) (n : String) (H' : Hp), Kd H' x n → (∀ z, x = .str z → Fine z) → HandAt H' p q → Keep H H' p → Q x H'
theorem fine_up {z : Str} (h : Low z) (l : z.length ≤ 20) : Fine (PySem.Txt.upper z) := by
  have a : ∀ c ∈ z.cps.toList, c < 128 := fun c hc => by have := h c hc; omega
  rw [PyProof.Rows.upper_ascii a]
  refine ⟨?_, ?_⟩
  · unfold PyData.strOk
    rw [← Array.all_toList, Array.toList_map, List.all_map]
    refine List.all_eq_true.mpr fun c hc => decide_eq_true ?_
    have h1 := h c hc
    show PyProof.Rows.up1 c < 0x110000
    unfold PyProof.Rows.up1
    split <;> omega
  · show (z.cps.map _).size ≤ 40
    rw [Array.size_map]
    have e : z.cps.size = z.length := rfl
    omega
theorem none2 {H : Hp} {a b : Addr} {o : HO} (h : upd H a o b = none) : H b = none ∧ b ≠ a := by
  have n : b ≠ a := fun e => by rw [e, upd_same] at h; cases h
  rw [upd_ne n] at h
  exact ⟨h, n⟩
theorem fine_low {z : Str} (h : Low z) (l : z.length ≤ 20) : Fine z := ⟨low_ok h, by omega⟩
theorem fine_app {a b : Str} (h : Fine a) (l : a.length ≤ 20) (hb : PyData.strOk b = true) (lb : b.length ≤ 20) : Fine (a ++ b) := by
  refine ⟨?_, by rw [len_app]; omega⟩
  have h1 := h.1
  unfold PyData.strOk at h1 hb ⊢
  rw [← Array.all_toList] at h1 hb ⊢
  rw [cps_app, List.all_append, h1, hb]
  rfl
end
end Kx

set_option maxHeartbeats 4000000
namespace Kx
open PySem L2
/-! own errors with fields -/
/-- __init__ of such an error: both are stored -/
def spInit2 (K : PySem.W.Frag) (C : Addr) (f1 f2 : Str) : Sp := fun vs H Q _ => ∃ (a : Addr) (y z : V), vs = [.ref a, y, z] ∧ OexC K C ∧ PySem.W.findIn K (.ref C) f1 = some none ∧ PySem.W.findIn K (.ref C) f2 = some none ∧ H a = some (exo a C none) ∧
  ∀ (d : Addr) (H' : Hp), H d = none → d ≠ a → H' a = some (exo a C (some d)) → H' d = some (exd d [(f2, z), (f1, y)]) → (∀ b o, H b = some o → b ≠ a → H' b = some o) → Q .non H'
section
variable {P : Program} {w : World} {K : PySem.W.Frag} {mg : Str → Option Value} {base : Heap}
theorem scBadKinds : FnScope ["self", "index", "what"] ["self", "index", "what"] (defScope sBadKinds_init) := ⟨rfl, rfl, rfl, by decide +kernel, rfl, by decide +kernel, by decide +kernel⟩
theorem ok_BadKinds {f C : Addr} {fd : FuncData} (F : Fun K "__init__" "BadKinds.__init__" sBadKinds_init f fd) : FnOk P w K mg base CX0 1 f fd ["self", "index", "what"] (spInit2 K C "index" "what") := by
  refine F.ok scBadKinds (fun vs H Q E h => ?_) (fun cdv A outer s H vs Q E hr h => ?_)
  · obtain ⟨a, y, z, rfl, _⟩ := h
    rfl
  · obtain ⟨a, y, z, rfl, T, n1, n2, ha, k⟩ := h
    refine ⟨_, pss_cons (ps_ost (pv 0) (pv 1)) (pss_one (ps_ost (pv 0) (pv 2))), ?_⟩
    refine ⟨_, rfl, _, rfl, a, C, rfl, T, n1, .inl ⟨ha, fun dx hdx ne => ?_⟩⟩
    refine ⟨_, rfl, _, rfl, a, C, rfl, T, n2, .inr ⟨dx, _, upd_same, by rw [upd_ne ne, upd_same], (by show 1 ≤ 900; decide), ?_⟩⟩
    refine k dx _ hdx ne (by rw [upd_ne ne.symm, upd_same]) upd_same fun b o e nb => ?_
    rw [upd_ne (ne_of_none e hdx), upd_ne nb, upd_ne (ne_of_none e hdx)]
    exact e
/-- __init__ of an error with one field -/
def spInit1 (K : PySem.W.Frag) (C : Addr) (f1 : Str) : Sp := fun vs H Q _ => ∃ (a : Addr) (y : V), vs = [.ref a, y] ∧ OexC K C ∧ PySem.W.findIn K (.ref C) f1 = some none ∧ H a = some (exo a C none) ∧
  ∀ (d : Addr) (H' : Hp), H d = none → d ≠ a → H' a = some (exo a C (some d)) → H' d = some (exd d [(f1, y)]) → (∀ b o, H b = some o → b ≠ a → H' b = some o) → Q .non H'
theorem scBadYears : FnScope ["self", "years"] ["self", "years"] (defScope sBadYears_init) := ⟨rfl, rfl, rfl, by decide +kernel, rfl, by decide +kernel, by decide +kernel⟩
theorem ok_BadYears {f C : Addr} {fd : FuncData} (F : Fun K "__init__" "BadYears.__init__" sBadYears_init f fd) : FnOk P w K mg base CX0 1 f fd ["self", "years"] (spInit1 K C "years") := by
  refine F.ok scBadYears (fun vs H Q E h => ?_) (fun cdv A outer s H vs Q E hr h => ?_)
  · obtain ⟨a, y, rfl, _⟩ := h
    rfl
  · obtain ⟨a, y, rfl, T, n1, ha, k⟩ := h
    refine ⟨_, pss_one (ps_ost (pv 0) (pv 1)), ?_⟩
    refine ⟨_, rfl, _, rfl, a, C, rfl, T, n1, .inl ⟨ha, fun dx hdx ne => ?_⟩⟩
    refine k dx _ hdx ne upd_same (by rw [upd_ne ne, upd_same]) fun b o e nb => ?_
    rw [upd_ne nb, upd_ne (ne_of_none e hdx)]
    exact e
/-- __init__ of an error with three fields -/
def spInit3 (K : PySem.W.Frag) (C : Addr) (f1 f2 f3 : Str) : Sp := fun vs H Q _ => ∃ (a : Addr) (x y z : V), vs = [.ref a, x, y, z] ∧ OexC K C ∧ PySem.W.findIn K (.ref C) f1 = some none ∧ PySem.W.findIn K (.ref C) f2 = some none ∧ PySem.W.findIn K (.ref C) f3 = some none ∧ H a = some (exo a C none) ∧
  ∀ (d : Addr) (H' : Hp), H d = none → d ≠ a → H' a = some (exo a C (some d)) → H' d = some (exd d [(f3, z), (f2, y), (f1, x)]) → (∀ b o, H b = some o → b ≠ a → H' b = some o) → Q .non H'
theorem scBadHistory : FnScope ["self", "year", "index", "what"] ["self", "year", "index", "what"] (defScope sBadHistory_init) := ⟨rfl, rfl, rfl, by decide +kernel, rfl, by decide +kernel, by decide +kernel⟩
theorem ok_BadHistory {f C : Addr} {fd : FuncData} (F : Fun K "__init__" "BadHistory.__init__" sBadHistory_init f fd) : FnOk P w K mg base CX0 1 f fd ["self", "year", "index", "what"] (spInit3 K C "year" "index" "what") := by
  refine F.ok scBadHistory (fun vs H Q E h => ?_) (fun cdv A outer s H vs Q E hr h => ?_)
  · obtain ⟨a, x, y, z, rfl, _⟩ := h
    rfl
  · obtain ⟨a, x, y, z, rfl, T, n1, n2, n3, ha, k⟩ := h
    refine ⟨_, pss_cons (ps_ost (pv 0) (pv 1)) (pss_cons (ps_ost (pv 0) (pv 2)) (pss_one (ps_ost (pv 0) (pv 3)))), ?_⟩
    refine ⟨_, rfl, _, rfl, a, C, rfl, T, n1, .inl ⟨ha, fun dx hdx ne => ?_⟩⟩
    refine ⟨_, rfl, _, rfl, a, C, rfl, T, n2, .inr ⟨dx, _, upd_same, by rw [upd_ne ne, upd_same], (by show 1 ≤ 900; decide), ?_⟩⟩
    refine ⟨_, rfl, _, rfl, a, C, rfl, T, n3, .inr ⟨dx, _, by rw [upd_ne ne.symm]; exact upd_same, upd_same, (by show 2 ≤ 900; decide), ?_⟩⟩
    refine k dx _ hdx ne (by rw [upd_ne ne.symm, upd_ne ne.symm, upd_same]) upd_same fun b o e nb => ?_
    rw [upd_ne (ne_of_none e hdx), upd_ne (ne_of_none e hdx), upd_ne nb, upd_ne (ne_of_none e hdx)]
    exact e
end
/-- what is known of an error's class -/
structure ErC (P : Program) (w : World) (K : PySem.W.Frag) (mg : Str → Option Value) (base : Heap) (x : Str) (ps : List Str) (C fI : Addr) (fd : FuncData) (sp : Sp) : Prop where
  T : OexC K C
  iC : PySem.W.findIn K (.ref C) "__init__" = some (some (.ref fI))
  tI : PySem.W.typeIn K (.ref fI) = some (.type "function")
  gC : mg x = some (.ref C)
  b : Binds K fd ps []
  G : FnOk P w K mg base CX0 1 fI fd ps sp
  xf : XfC K C
theorem fin2 {K : PySem.W.Frag} {C : Addr} {f1 f2 : Str} (T : OexC K C) (n1 : PySem.W.findIn K (.ref C) f1 = some none) (n2 : PySem.W.findIn K (.ref C) f2 = some none) {H : Hp} {y z : V} {Q : XK} (q : ∀ d H', H d = none → Same H H' → H' d = some (.xd [(f2, z), (f1, y)]) → Q (.ref C) (some d) H') :
    [y, z].length ≤ 1000 ∧ ∀ a, H a = none → spInit2 K C f1 f2 (.ref a :: ([y, z] ++ [])) (upd H a (exo a C none)) (fun v H2 => v = .non ∧ ∃ (d : Addr) (fs : List (Str × V)), H2 a = some (exo a C (some d)) ∧ H2 d = some (exd d fs) ∧ H d = none ∧ Q (.ref C) (some d) (upd (del H2 a) d (.xd fs))) (fun _ _ _ => False) := by
  refine ⟨(by show 2 ≤ 1000; decide), fun a ha => ⟨a, y, z, rfl, T, n1, n2, upd_same, fun d H' hd ne ea ed kp => ⟨rfl, d, _, ea, ed, ?_, ?_⟩⟩⟩
  · rw [upd_ne ne] at hd
    exact hd
  · rw [upd_ne ne] at hd
    refine q d _ hd (fun b o e => ?_) upd_same
    have nba := ne_of_none e ha
    rw [upd_ne (ne_of_none e hd), del_ne nba]
    exact kp b o (by rw [upd_ne nba]; exact e) nba
theorem fin1 {K : PySem.W.Frag} {C : Addr} {f1 : Str} (T : OexC K C) (n1 : PySem.W.findIn K (.ref C) f1 = some none) {H : Hp} {y : V} {Q : XK} (q : ∀ d H', H d = none → Same H H' → H' d = some (.xd [(f1, y)]) → Q (.ref C) (some d) H') :
    [y].length ≤ 1000 ∧ ∀ a, H a = none → spInit1 K C f1 (.ref a :: ([y] ++ [])) (upd H a (exo a C none)) (fun v H2 => v = .non ∧ ∃ (d : Addr) (fs : List (Str × V)), H2 a = some (exo a C (some d)) ∧ H2 d = some (exd d fs) ∧ H d = none ∧ Q (.ref C) (some d) (upd (del H2 a) d (.xd fs))) (fun _ _ _ => False) := by
  refine ⟨(by show 1 ≤ 1000; decide), fun a ha => ⟨a, y, rfl, T, n1, upd_same, fun d H' hd ne ea ed kp => ⟨rfl, d, _, ea, ed, ?_, ?_⟩⟩⟩
  · rw [upd_ne ne] at hd
    exact hd
  · rw [upd_ne ne] at hd
    refine q d _ hd (fun b o e => ?_) upd_same
    have nba := ne_of_none e ha
    rw [upd_ne (ne_of_none e hd), del_ne nba]
    exact kp b o (by rw [upd_ne nba]; exact e) nba
end Kx

set_option maxHeartbeats 4000000
namespace Kx
open PySem PySem.Spec PyProof.Rows L2
/-! enumerate of a tuple -/
theorem meets_enum1 {v : Value} {o : Obj} {H : Heap → Prop} (B : Begins v o H) : Meets (Builtin.«enumerate.__new__» ⟨[.type "enumerate", v], []⟩) (fun _ R s => H s.heap ∧
    R (.ok (.ret (.ref (s.heap.push o).objs.size))) { s with heap := (s.heap.push o).push { cls := .type "enumerate", data := .fields #[.none, .bool false, .ref s.heap.objs.size, rawInt 0, .none, .none] } }) :=
  .of_wp fun prog w A R s got => by
    obtain ⟨hp, g, d, tk, os⟩ := s
    obtain ⟨there, got⟩ := got
    have sub := sub_enumerate
    have step : ∀ {A' : Around} {E : Value → Shared → Prop} {Q : Value → Shared → Prop}, Q (.ref hp.objs.size) ⟨hp.push o, g, d, tk, os⟩ → wpAny (model prog w) A' (pyIter v) Q E ⟨hp, g, d, tk, os⟩ := fun q => B.iter prog w _ _ ⟨hp, g, d, tk, os⟩ _ there q
    wp_walk using step
    refine wpAny_stack_any fun st => wpAny_pure ?_
    split
    · rename_i c _ _ _ _ _
      cases (c == Value.type "enumerate") <;> (wp_walk using step; exact ⟨_, rfl, got⟩)
    · wp_walk using step; exact ⟨_, rfl, got⟩
theorem call_enum1 {prog : Program} {w : World} {A : Around} {E : Value → Shared → Prop} {s : Shared} {v : Value} {o : Obj} {H : Heap → Prop} {Q : Value → Shared → Prop} (B : Begins v o H) (there : H s.heap)
    (next : ∀ h', IsEnum h' (s.heap.objs.size + 1) s.heap.objs.size 0 .none → h'.get? s.heap.objs.size = some o → (∀ b o, s.heap.get? b = some o → h'.get? b = some o) → Q (.ref (s.heap.objs.size + 1)) { s with heap := h' }) :
    wpAny (model prog w) A (call (.type "enumerate") [v]) Q E s := by
  refine callType_new F.called_enumerate (by decide) (F.typeCall_enumerate_1 _) (F.newCall_enumerate_1 _) (fun obj => F.args_object_init_2 obj _) F.entry_enumerate_new (meets_enum1 B) ⟨there, ?_⟩
  have z : (s.heap.push o).objs.size = s.heap.objs.size + 1 := Heap.size_push ..
  show _ ∧ _
  rw [z]
  have he : IsEnum ((s.heap.push o).push { cls := .type "enumerate", data := .fields #[.none, .bool false, .ref s.heap.objs.size, rawInt 0, .none, .none] }) (s.heap.objs.size + 1) s.heap.objs.size 0 .none := by
    have q := Heap.get?_push_size (s.heap.push o) (o := { cls := .type "enumerate", data := .fields #[.none, .bool false, .ref s.heap.objs.size, rawInt 0, .none, .none] }) rfl
    rw [z] at q
    exact q
  exact ⟨⟨_, he, rfl⟩, next _ he (Heap.get?_push_of_some _ (Heap.get?_push_size _ B.free)) fun b o x => Heap.get?_push_of_some _ (Heap.get?_push_of_some _ x)⟩
/-- the tuple at a, each item in a new pair -/
def IteT (K : PySem.W.Frag) (a : Addr) : It :=
  ⟨fun i H => ∃ (xs : List V) (x : V), SqT K H a xs ∧ xs[i]? = some x, fun i H v H' => ∃ T x, v = .ref T ∧ H T = none ∧ H' = upd H T (.tup [.int (i : Nat), x]) ∧ ∀ xs, SqT K H a xs → xs[i]? = some x, fun i H => ∃ xs : List V, SqT K H a xs ∧ xs.length = i⟩
theorem turn_enumT {P : Program} {w : World} {K : PySem.W.Frag} {elts : List Expr} {kk : Nat} {tpos : Pos} (a e it : Addr) :
    Turn P w K (.Tuple elts kk tpos) (IteT K a) [e, it] e (fun i h => (∃ old, IsEnum h e it ((i : Nat) : Int) old) ∧ h.IsTupleIter it a i ∧ e ≠ it ∧ a ≠ it ∧ a ≠ e) where
  mem := by simp
  obj := fun i h st b hb => by
    obtain ⟨⟨old, he⟩, ⟨o, ho, hc, hd⟩, _⟩ := st
    have e' : b = e ∨ b = it := by simpa using hb
    rcases e' with z | z <;> rw [z]
    · exact ⟨_, he, fun v q => nomatch q⟩
    · exact ⟨o, ho, fun v q => by rw [hd] at q; cases q⟩
  keep := fun i h h' st k => let ⟨⟨old, he⟩, hi, r⟩ := st; ⟨⟨old, k e (by simp) _ he⟩, hi.at fun o q => k it (by simp) o q, r⟩
  item := by
    rintro X rfl rfl rfl hc i pins s σ H E I hf ⟨⟨old, he⟩, hit, hne, hai, hae⟩ ⟨xs, x, hq, hx⟩
    obtain ⟨its, rv, p, hz⟩ := I.tuple hq
    obtain ⟨u, hu, ru⟩ := rv.get hx
    have hel : e < s.heap.objs.size := Heap.lt_size he
    have hil : it < s.heap.objs.size := by obtain ⟨_, q, _⟩ := hit; exact Heap.lt_size q
    have lt : i < its.toArray.size := by simpa using (List.getElem?_eq_some_iff.mp hu).1
    have D := Draws.tuple (prog := X.prog) (w := X.w) (A := X.A.in1) (I.ok.hd hc) it a hai its.toArray
    refine wpAny_pyNext_enum_itemC D he ⟨hit, p⟩ lt hne (by simp [hne, hae.symm]) fun v h' tk hv ho st' hT hsz hk => ?_
    obtain rfl : v = u := by
      have q : its.toArray[i]? = some v := hv
      rw [List.getElem?_toArray, hu] at q
      exact (Option.some.inj q).symm
    refine ⟨_, rfl, wpAny_letOwnedTupleGo_enum (s := { s with heap := h', toks := tk + 1 }) ho fun h'' he' sb => ?_⟩
    have hT2 : h''.get? s.heap.objs.size = some { cls := .type "tuple", data := .seq #[.int i tk, v] } := (sb.2 _ (Nat.ne_of_gt hel)).trans hT
    have new : ObjOk X.prog X.w (upd H s.heap.objs.size (.tup [.int (i : Nat), x])) h'' s.heap.objs.size (.tup [.int (i : Nat), x]) := ⟨by show 2 ≤ sizeLine; decide, [.int i tk, v], .cons ⟨_, rfl⟩ (.cons ru .nil), ⟨_, hT2, rfl, _, rfl⟩⟩
    have I1 : Inv X pins σ (upd H s.heap.objs.size (.tup [.int (i : Nat), x])) { s with heap := h'', toks := tk + 1 } :=
      I.turnedNew (ch := [e, it]) (fun b ob hb q => (sb.2 b (fun z => hb (by simp [z]))).trans (hk b ob (fun z => hb (by simp [z])) (fun z => hb (by simp [z])) q)) hf (Nat.le_refl _) new
    refine ⟨.ref s.heap.objs.size, _, I1, rfl, ⟨_, x, rfl, I.hok.fresh (Nat.le_refl _), rfl, fun ys hy => ?_⟩, ⟨⟨v, he'⟩, st'.1.at fun o q => (sb.2 it (Ne.symm hne)).trans q, hne, hai, hae⟩, fun b hb => ?_⟩
    · rw [I.tuple_inj hy hq]
      exact hx
    · have lt : b < s.heap.objs.size := by
        have e' : b = e ∨ b = it := by simpa using hb
        rcases e' with z | z <;> rw [z]
        · exact hel
        · exact hil
      rw [upd_ne (Nat.ne_of_lt lt)]
      exact (hf b hb).1
  done := by
    rintro X rfl rfl rfl hc i pins s σ H E I hf ⟨⟨old, he⟩, hit, hne, hai, hae⟩ ⟨xs, hq, hx⟩
    obtain ⟨its, rv, p, hz⟩ := I.tuple hq
    obtain ⟨f0, f1, f2, f3, f4, f5⟩ := hf it (by simp)
    have hl := rv.length
    have D := Draws.tuple (prog := X.prog) (w := X.w) (A := X.A.in1) (I.ok.hd hc) it a hai its.toArray
    have n : its.toArray.size = i := by rw [List.size_toArray, ← hl, hx]
    rw [n] at D
    exact wpAny_pyNext_enum_endD D he ⟨hit, p⟩ fun h' eb => ⟨rfl, I.turned (t' := s.toks) (fun b o hb q => eb b o hb q) f0 f1 f3 f4 f5⟩
  self := fun A i s Q E st h => let ⟨⟨_, he⟩, _⟩ := st; wpAny_pyIter_enum he h
/-- enumerate of a list or a tuple -/
def iEnumB (K : PySem.W.Frag) (ta : TA) : TI := fun σ H R => ta σ H fun vs H1 => ∃ a xs, vs = [.ref a] ∧ ((SqL K H1 a xs ∧ R (Ite K a) H1) ∨ (SqT K H1 a xs ∧ R (IteT K a) H1))
theorem pi_enumB {X : Cx} {e : Expr} {ta : TA} {p pos tpos : Pos} {elts : List Expr} {kk : Nat} (hg : Gl X "enumerate") (hm : X.mg "enumerate" = none) (ha : PA X [e] ta) (hs : starEach [e] X.env = [(false, eval e X.env)] := by rfl) :
    PI X (.Tuple elts kk tpos) (.Call (.Name "enumerate" p) [e] [] pos) (iEnumB X.K ta) := by
  refine ⟨fun pins s σ H R I h => Call_ (ld_blt I hg hm boot_enumerate (callWith_type1 (thn (ha.run pos pins s σ H _ I h) fun us s1 ⟨vs, H1, I1, r1, q1⟩ => ?_) hs rfl))⟩
  obtain ⟨a, xs, rfl, q⟩ := q1
  rw [Vals.ref1 r1]
  have fresh : ∀ {h' : Heap}, (∀ b o, s1.heap.get? b = some o → h'.get? b = some o) → Inv X pins σ H1 { s1 with heap := h' } := fun hk => I1.kept (t' := s1.toks) hk
  have fp : ∀ b ∈ [s1.heap.objs.size + 1, s1.heap.objs.size], FpOk X pins H1 b := fun b hb => by
    have e' : b = s1.heap.objs.size + 1 ∨ b = s1.heap.objs.size := by simpa using hb
    have le : s1.heap.objs.size ≤ b := by
      rcases e' with z | z <;> rw [z]
      · exact Nat.le_succ _
      · exact Nat.le_refl _
    exact I1.fpOk le (I1.hok.fresh le)
  rcases q with ⟨hq, q⟩ | ⟨hq, q⟩
  · obtain ⟨its, rv, pl, hz⟩ := I1.list hq
    exact call_enumerate_list pl.isList fun h' he hit hsz hk => wpAny_pyIter_enum he ⟨_, _, _, _, H1, rfl, fresh hk, turn_enum a (s1.heap.objs.size + 1) s1.heap.objs.size, ⟨⟨.none, he⟩, hit, Nat.succ_ne_self _⟩, fp, q⟩
  · obtain ⟨its, rv, pl, hz⟩ := I1.tuple hq
    obtain ⟨oa, ho, _⟩ := id pl
    have lt : a < s1.heap.objs.size := Heap.lt_size ho
    exact call_enum1 (begins_tuple a its.toArray) pl fun h' he hit hk => wpAny_pyIter_enum he ⟨_, _, _, _, H1, rfl, fresh hk, turn_enumT a (s1.heap.objs.size + 1) s1.heap.objs.size, ⟨⟨.none, he⟩, ⟨_, hit, rfl, rfl⟩, Nat.succ_ne_self _, Nat.ne_of_lt lt, Nat.ne_of_lt (Nat.lt_succ_of_lt lt)⟩, fp, q⟩
/-- what a for loop over J asks -/
abbrev Runs (J : It) (g : TG) (tb : TS) (D : Ends) (σ : L2.St) (H : Hp) : Prop := ∃ U : Nat → Nat → L2.St → Hp → Prop, (∃ m, U 0 m σ H) ∧ ∀ i m σ H, U i m σ H → (J.stop i H ∧ D.nx σ H) ∨ (J.go i H ∧ ∃ N : L2.St → Hp → Prop, (∀ σ' H', N σ' H' → ∃ m', m' < m ∧ U (i + 1) m' σ' H') ∧
  ∀ x H', J.yld i H x H' → g x σ H' fun σ2 H2 => tb { D with nx := N, ct := N, bk := D.nx } σ2 H2)
/-- over enumerate of a list or a tuple that stands still -/
theorem for_enumB {K : PySem.W.Frag} {a : Addr} {xs : List V} {g : TG} {tb : TS} {D : Ends} {σ : L2.St} {H : Hp} (W : Nat → L2.St → Hp → Prop) (start : W 0 σ H) (still : (∀ i σ H, W i σ H → SqL K H a xs) ∨ (∀ i σ H, W i σ H → SqT K H a xs))
    (turn : ∀ i x σ H T, xs[i]? = some x → W i σ H → H T = none → g (.ref T) σ (upd H T (.tup [.int (i : Nat), x])) fun σ2 H2 => tb { D with nx := W (i + 1), ct := W (i + 1), bk := D.nx } σ2 H2) (after : ∀ σ H, W xs.length σ H → D.nx σ H) :
    (SqL K H a xs ∧ Runs (Ite K a) g tb D σ H) ∨ (SqT K H a xs ∧ Runs (IteT K a) g tb D σ H) := by
  rcases still with still | still
  · refine .inl ⟨still _ _ _ start, fun i m σ H => m + i = xs.length ∧ W i σ H, ⟨xs.length, by omega, start⟩, fun i m σ H u => ?_⟩
    obtain ⟨e, u⟩ := u
    cases m with
    | zero =>
      obtain rfl : i = xs.length := by omega
      exact .inl ⟨⟨xs, still _ _ _ u, Nat.le_refl _⟩, after _ _ u⟩
    | succ m =>
      have lt : i < xs.length := by omega
      refine .inr ⟨⟨xs, xs[i], still _ _ _ u, List.getElem?_eq_getElem lt⟩, W (i + 1), fun σ' H' u' => ⟨m, Nat.lt_succ_self _, by omega, u'⟩, fun x H' y => ?_⟩
      obtain ⟨T, z, rfl, free, rfl, same⟩ := y
      exact turn i z σ H T (same xs (still _ _ _ u)) u free
  · refine .inr ⟨still _ _ _ start, fun i m σ H => m + i = xs.length ∧ W i σ H, ⟨xs.length, by omega, start⟩, fun i m σ H u => ?_⟩
    obtain ⟨e, u⟩ := u
    cases m with
    | zero =>
      obtain rfl : i = xs.length := by omega
      exact .inl ⟨⟨xs, still _ _ _ u, rfl⟩, after _ _ u⟩
    | succ m =>
      have lt : i < xs.length := by omega
      refine .inr ⟨⟨xs, xs[i], still _ _ _ u, List.getElem?_eq_getElem lt⟩, W (i + 1), fun σ' H' u' => ⟨m, Nat.lt_succ_self _, by omega, u'⟩, fun x H' y => ?_⟩
      obtain ⟨T, z, rfl, free, rfl, same⟩ := y
      exact turn i z σ H T (same xs (still _ _ _ u)) u free
/-- one of two targets' rules -/
theorem pg_or {X : Cx} {t : Expr} {g g' : TG} (h : PG X t g) (h' : PG X t g') : PG X t (fun v σ H Q => g v σ H Q ∨ g' v σ H Q) :=
  ⟨fun pins s σ H v u Q I r q => q.elim (fun q => h.run pins s σ H v u Q I r q) fun q => h'.run pins s σ H v u Q I r q⟩
end Kx

set_option maxHeartbeats 4000000
namespace Kx
open PySem PySem.Spec PyProof.Rows L2
section
variable {X : Cx} {C g : Addr} {sp : Sp} {E : XK} {CXx : CXT} {n : Nat}
/-- an instance as the library's lemmas know it -/
theorem inst_of {pins : List (Addr × Obj)} {σ : L2.St} {H : Hp} {s : Shared} {a dx : Addr} {fs : List (Str × V)} (I : Inv X pins σ H s) (h : H a = some (.ins C dx fs)) : ∃ ox od, PySem.W.InstAt s.heap a ox C od := by
  obtain ⟨mA, J, _⟩ := ins_get I.hok h
  obtain ⟨od, J, _⟩ := J.look
  exact ⟨_, _, J⟩
/-- x in o, o an instance whose class has its own __contains__ -/
def rInOwn (neg : Bool) (C : Addr) (sp : Sp) (E : XK) : R2 := fun x y H Q => ∃ a dx fs, y = .ref a ∧ H a = some (.ins C dx fs) ∧ sp [.ref a, x] H (fun z H' => ∃ b, z = .bl b ∧ Q (.bl (if neg then !b else b)) H') E
theorem op_inOwn (hs : PySem.W.findIn X.K (.ref C) "__contains__" = some (some (.ref g))) (hf : PySem.W.isFn X.K (.ref g) = true) (F : FnR X.prog X.w X.K X.mg X.base CXx n g sp) (hr : Room n X.A) (hx : Passes CXx X E) : OpR X (compareOp .In) (rInOwn false C sp E) := by
  intro pins s σ H x y v u Q I rx ry h
  obtain ⟨a, dx, fs, rfl, ha, q⟩ := h
  obtain rfl : u = Value.ref a := ry
  obtain ⟨ox, od, J⟩ := inst_of I ha
  obtain ⟨m, hF⟩ := I.fr
  refine PySem.W.in_K hF I.ok.mod.kin J hs hf (wpAny_mono (wpAny_call (run_fnR (us := [.ref a, v]) (vs := [.ref a, x]) F hr hx I (.cons rfl (.cons rx .nil)) q)) (fun w s' z => ?_) fun _ _ x => x)
  obtain ⟨z', H', I', rz, b, rfl, qz⟩ := z
  obtain rfl : w = Value.bool b := rz
  exact wpAny_truthy_bool ⟨.bl b, H', I', rfl, qz⟩
theorem op_notInOwn (hs : PySem.W.findIn X.K (.ref C) "__contains__" = some (some (.ref g))) (hf : PySem.W.isFn X.K (.ref g) = true) (F : FnR X.prog X.w X.K X.mg X.base CXx n g sp) (hr : Room n X.A) (hx : Passes CXx X E) : OpR X (compareOp .NotIn) (rInOwn true C sp E) := by
  intro pins s σ H x y v u Q I rx ry h
  obtain ⟨a, dx, fs, rfl, ha, q⟩ := h
  obtain rfl : u = Value.ref a := ry
  obtain ⟨ox, od, J⟩ := inst_of I ha
  obtain ⟨m, hF⟩ := I.fr
  refine PySem.W.notIn_K hF I.ok.mod.kin J hs hf (wpAny_mono (wpAny_call (run_fnR (us := [.ref a, v]) (vs := [.ref a, x]) F hr hx I (.cons rfl (.cons rx .nil)) q)) (fun w s' z => ?_) fun _ _ x => x)
  obtain ⟨z', H', I', rz, b, rfl, qz⟩ := z
  obtain rfl : w = Value.bool b := rz
  exact wpAny_truthy_bool ⟨.bl (!b), H', I', rfl, qz⟩
/-- len(o) by an own __len__ -/
def rLenOwn (C : Addr) (sp : Sp) (E : XK) : List V → Hp → VK → Prop := fun xs H Q => ∃ a dx fs, xs = [.ref a] ∧ H a = some (.ins C dx fs) ∧ sp [.ref a] H (fun z H' => ∃ k : Int, z = .int k ∧ 0 ≤ k ∧ k < 2 ^ 63 ∧ Q (.int k) H') E
theorem call_lenOwn (hs : PySem.W.findIn X.K (.ref C) "__len__" = some (some (.ref g))) (hf : PySem.W.isFn X.K (.ref g) = true) (F : FnR X.prog X.w X.K X.mg X.base CXx n g sp) (hr : Room (n + 1) X.A) (hx : Passes CXx X E) : CallR X (.builtin "len") (rLenOwn C sp E) := by
  intro pins s σ H xs us Q I r h
  obtain ⟨a, dx, fs, rfl, ha, q⟩ := h
  rw [Vals.ref1 r]
  obtain ⟨ox, od, J⟩ := inst_of I ha
  obtain ⟨m, hF⟩ := I.fr
  have run : codeAny (model X.prog X.w) X.A.in1 (.call (.ref g) ⟨[.ref a], []⟩) (fun r s' => match r with | .ok (.ret v) => EP X pins σ (fun z H' => ∃ k : Int, z = .int k ∧ 0 ≤ k ∧ k < 2 ^ 63 ∧ Q (.int k) H') v s' | .ok _ => False | .error e => X.xe e s') s := by
    refine codeAny_mono (F X.A.in1 X.stack s H [.ref a] [.ref a] _ E hr.in1 I.env0.in1 (.cons rfl .nil) q) fun r s' hq => ?_
    rcases r with e | (_ | _ | _ | u)
    · exact hx pins σ H s e s' I hq
    · exact hq.elim
    · exact hq.elim
    · exact hq.elim
    · exact I.after hq
  refine PySem.W.len_K hF I.ok.mod.kin J hs hf (wpAny_mono (wpAny_call run) (fun w s' z => ?_) fun _ _ x => x)
  obtain ⟨z', H', I', rz, k, rfl, k0, k1, qz⟩ := z
  obtain ⟨t, rfl⟩ := (show ∃ t, w = Value.int k t from rz)
  exact ⟨⟨k0, k1⟩, .int k, H', I'.tok _, ⟨_, rfl⟩, qz⟩
/-- o == y by an own __eq__, y any thing that is not of a class below -/
def rEqOwn (K : PySem.W.Frag) (C : Addr) (sp : Sp) (E : XK) : R2 := fun x y H Q => ∃ a dx fs, x = .ref a ∧ H a = some (.ins C dx fs) ∧ ((∃ b dy gs C', y = .ref b ∧ H b = some (.ins C' dy gs) ∧ PySem.W.notFirst K C (.ref C') = true) ∨ (∃ b ys, y = .ref b ∧ H b = some (.tup ys) ∧ PySem.W.notFirst K C (.type "tuple") = true)) ∧
  sp [.ref a, y] H (fun z H' => ∃ b, z = .bl b ∧ Q (.bl b) H') E
theorem op_eqOwn (hs : PySem.W.findIn X.K (.ref C) "__eq__" = some (some (.ref g))) (hf : PySem.W.isFn X.K (.ref g) = true) (F : FnR X.prog X.w X.K X.mg X.base CXx n g sp) (hr : Room n X.A) (hx : Passes CXx X E) : OpR X (compareOp .Eq) (rEqOwn X.K C sp E) := by
  intro pins s σ H x y v u Q I rx ry h
  obtain ⟨a, dx, fs, rfl, ha, hy, q⟩ := h
  obtain rfl : v = Value.ref a := rx
  obtain ⟨ox, od, J⟩ := inst_of I ha
  obtain ⟨m, hF⟩ := I.fr
  have go : ∀ tb, PySem.W.Looks (model X.prog X.w) s.heap (typeOf u) tb → PySem.W.notFirst X.K C tb = true → wpAny (model X.prog X.w) X.A (compareOp .Eq (.ref a) u) (EP X pins σ Q) X.xe s := fun tb hb hn => by
    refine PySem.W.cmp_K (op := .Eq) hr.units0 hF I.ok.mod.kin J hb hn hs hf (wpAny_mono (wpAny_call (run_fnR (us := [.ref a, u]) (vs := [.ref a, y]) F hr hx I (.cons rfl (.cons ry .nil)) q)) (fun w s' z => ?_) fun _ _ x => x)
    obtain ⟨z', H', I', rz, b, rfl, qz⟩ := z
    obtain rfl : w = Value.bool b := rz
    exact ⟨.bl b, H', I', rfl, qz⟩
  rcases hy with ⟨b, dy, gs, C', rfl, hb, hn⟩ | ⟨b, ys, rfl, hb, hn⟩
  · obtain rfl : u = Value.ref b := ry
    obtain ⟨ox', od', J'⟩ := inst_of I hb
    exact go _ J'.type hn
  · obtain rfl : u = Value.ref b := ry
    obtain ⟨_, _, _, o, h1, h2, _⟩ := (show ObjOk X.prog X.w H s.heap b (.tup ys) from I.hok b _ hb)
    exact go _ (PySem.W.kitAt_ty _ _ ⟨o, h1, h2⟩) hn
end
/-! != by the own __eq__ -/
section
variable {prog : Program} {w : World} {A : Around} {Er : Value → Shared → Prop} {s : Shared} {K : PySem.W.Frag} {x D f : Addr} {ox : Obj} {od : Option Obj} {b tb : Value}
theorem bound_ne {M : Model} {args : List Value} {Q : Option Value → Shared → Prop} (Y : K.In s.heap) (J : PySem.W.InstAt s.heap x ox D od) (hs : PySem.W.findIn K (.ref D) "__ne__" = some (some (.builtin "object.__ne__")))
    (h : wpAny M A (call (.builtin "object.__ne__") (.ref x :: args)) (fun v => Q (some v)) Er s) : wpAny M A (callSpecialIfBound? (.ref x) "__ne__" args) Q Er s := by
  simp only [callSpecialIfBound?, bindSpecialIfBound?]
  refine wpAny_holding (wpAny_bind (wpAny_bind (wpAny_bind (J.type.here ((PySem.W.looks_findIn Y hs).here (wpAny_bind (wpAny_askSetting (wpAny_ite ?_))))))))
  have fin : wpAny M A (call (.builtin "object.__ne__") ([.ref x] ++ args) >>= fun v => pure (some v)) Q Er s := wpAny_bind (wpAny_mono h (fun v s' z => wpAny_pure z) fun _ _ z => z)
  split
  · exact wpAny_bind (wpAny_of_eq (F.cmp_object.ne.bind _) (wpAny_pure (by exact fin)))
  · exact wpAny_tryCatch (wpAny_bind (wpAny_of_eq (F.cmp_object.ne.bind _) (wpAny_pure (by exact fin))))
/-- what the own __eq__ hands back, turned about -/
def NeBack (Q : Value → Shared → Prop) (v : Value) (s' : Shared) : Prop := match v with
  | .bool c => Q (.bool (!c)) s'
  | _ => False
theorem call_ne {Q : Value → Shared → Prop} (hu : A.units + 64 < cLine) (Y : K.In s.heap) (J : PySem.W.InstAt s.heap x ox D od) (hm : PySem.W.mroIn K D (.type "object") = some true) (he : PySem.W.findIn K (.ref D) "__eq__" = some (some (.ref f))) (hf : PySem.W.isFn K (.ref f) = true)
    (h : wpAny (model prog w) A.in1 (call (.ref f) [.ref x, b]) (NeBack Q) Er s) : wpAny (model prog w) A (call (.builtin "object.__ne__") [.ref x, b]) Q Er s := by
  refine wpAny_call (codeAny_call_builtin F.cmp_object.ne.plain F.cmpEntry_ne (PySem.W.check_slot F.cmpKind_ne F.cmpSplit_ne (J.type.andThen (PySem.W.looks_mroIn Y hm)) (F.cmpArgs_ne _ _) ?_))
  unfold Builtin.«object.__ne__»
  refine wpAny_bind (m := slotArgs "__ne__" 1 _) (wpAny_of_eq (a := (Value.ref x, [b])) rfl ?_)
  dsimp only
  refine wpAny_bind (wpAny_cRoomFor (A := A.in1) (by show A.units + 1 < cLine; omega) ?_)
  refine wpAny_bind (PySem.W.ifBound_K Y J he hf (wpAny_mono h (fun v s' hv => ?_) fun _ _ z => z))
  cases v with
  | bool c => exact wpAny_bind (wpAny_truthy_bool (wpAny_pure hv))
  | _ => exact hv.elim
theorem rich_ne {h₀ : Heap} {L : Addr} {m : Str → Option Value} {Q : Value → Shared → Prop} (hu : A.units + 64 < cLine) (F₀ : Fr h₀ L s.heap m) (X₀ : K.In h₀) (J : PySem.W.InstAt s.heap x ox D od) (hb : PySem.W.Looks (model prog w) s.heap (typeOf b) tb) (hn : PySem.W.notFirst K D tb = true)
    (hm : PySem.W.mroIn K D (.type "object") = some true) (hne : PySem.W.findIn K (.ref D) "__ne__" = some (some (.builtin "object.__ne__"))) (he : PySem.W.findIn K (.ref D) "__eq__" = some (some (.ref f))) (hf : PySem.W.isFn K (.ref f) = true)
    (h : wpAny (model prog w) A.in1 (call (.ref f) [.ref x, b]) (NeBack Q) Er s) : wpAny (model prog w) A (richCompare .NotEq (.ref x) b) Q Er s := by
  have Y := X₀.keeps F₀.keep
  have one : wpAny (model prog w) A (tryCompare (.ref x) "__ne__" b) (fun r s' => ∃ c, r = some (.bool c) ∧ Q (.bool c) s') Er s := by
    unfold tryCompare
    refine wpAny_bind (bound_ne Y J hne (call_ne hu Y J hm he hf (wpAny_mono h (fun v s' hv => ?_) fun _ _ z => z)))
    cases v with
    | bool c => exact wpAny_pure ⟨!c, rfl, hv⟩
    | _ => exact hv.elim
  unfold richCompare
  simp only [oneThing_ref]
  refine wpAny_holding (wpAny_bind (wpAny_cRoomFor (by omega) (wpAny_bind (J.type.here (wpAny_bind (hb.here ?_))))))
  have fin : ∀ (r : Option Value) (s' : Shared), (∃ c, r = some (.bool c) ∧ Q (.bool c) s') → ∃ c, r = some (.bool c) ∧ Q (.bool c) s' := fun _ _ z => z
  split
  · rename_i q
    have e : PySem.W.subIn K tb (.ref D) = some false := by
      rcases Bool.or_eq_true_iff.mp hn with e | e
      · rw [beq_iff_eq.mp e] at q; simp at q
      · exact beq_iff_eq.mp e
    refine wpAny_bind ((PySem.W.looks_subIn Y e).here ?_)
    simp only [Bool.false_eq_true, if_false]
    refine wpAny_bind (wpAny_mono one (fun r s' z => ?_) fun _ _ e => e)
    obtain ⟨v, rfl, hq⟩ := fin r s' z
    exact wpAny_pure hq
  · refine wpAny_bind (wpAny_pure ?_)
    simp only [Bool.false_eq_true, if_false]
    refine wpAny_bind (wpAny_mono one (fun r s' z => ?_) fun _ _ e => e)
    obtain ⟨v, rfl, hq⟩ := fin r s' z
    exact wpAny_pure hq
end
section
variable {X : Cx} {C g : Addr} {sp : Sp} {E : XK} {CXx : CXT} {n : Nat}
/-- o != y by an own __eq__, both of one class -/
def rNeOwn (C : Addr) (sp : Sp) (E : XK) : R2 := fun x y H Q => ∃ a dx fs b dy gs, x = .ref a ∧ H a = some (.ins C dx fs) ∧ y = .ref b ∧ H b = some (.ins C dy gs) ∧ sp [.ref a, .ref b] H (fun z H' => ∃ c, z = .bl c ∧ Q (.bl (!c)) H') E
theorem op_neOwn (hm : PySem.W.mroIn X.K C (.type "object") = some true) (hne : PySem.W.findIn X.K (.ref C) "__ne__" = some (some (.builtin "object.__ne__"))) (hs : PySem.W.findIn X.K (.ref C) "__eq__" = some (some (.ref g))) (hf : PySem.W.isFn X.K (.ref g) = true) (F : FnR X.prog X.w X.K X.mg X.base CXx n g sp) (hr : Room (n + 1) X.A) (hx : Passes CXx X E) :
    OpR X (compareOp .NotEq) (rNeOwn C sp E) := by
  intro pins s σ H x y v u Q I rx ry h
  obtain ⟨a, dx, fs, b, dy, gs, rfl, ha, rfl, hb, q⟩ := h
  obtain rfl : v = Value.ref a := rx
  obtain rfl : u = Value.ref b := ry
  obtain ⟨ox, od, J⟩ := inst_of I ha
  obtain ⟨ox', od', J'⟩ := inst_of I hb
  obtain ⟨m, hF⟩ := I.fr
  have run : codeAny (model X.prog X.w) X.A.in1 (.call (.ref g) ⟨[.ref a, .ref b], []⟩) (fun r s' => match r with | .ok (.ret v) => EP X pins σ (fun z H' => ∃ c, z = .bl c ∧ Q (.bl (!c)) H') v s' | .ok _ => False | .error e => X.xe e s') s := by
    refine codeAny_mono (F X.A.in1 X.stack s H [.ref a, .ref b] [.ref a, .ref b] _ E hr.in1 I.env0.in1 (.cons rfl (.cons rfl .nil)) q) fun r s' hq => ?_
    rcases r with e | (_ | _ | _ | u)
    · exact hx pins σ H s e s' I hq
    · exact hq.elim
    · exact hq.elim
    · exact hq.elim
    · exact I.after hq
  refine rich_ne hr.units hF I.ok.mod.kin J J'.type (by simp [PySem.W.notFirst]) hm hne hs hf (wpAny_mono (wpAny_call run) (fun w s' z => ?_) fun _ _ x => x)
  obtain ⟨z', H', I', rz, c, rfl, qz⟩ := z
  obtain rfl : w = Value.bool c := rz
  exact ⟨.bl (!c), H', I', rfl, qz⟩
end
end Kx

set_option maxHeartbeats 4000000
namespace Kx
open PySem PySem.Spec PyProof.Rows L2
/-- a def's promise that may speak of what runs around the call, and of the state at it -/
structure FnA (P : Program) (w : World) (K : PySem.W.Frag) (mg : Str → Option Value) (base : Heap) (CX : CXT) (k : Nat) (f : Addr) (fd : FuncData) (ps : List Str) (sp : Around → Shared → Sp) : Prop where
  len : ∀ A s vs H Q E, sp A s vs H Q E → vs.length = ps.length
  run : ∀ (A : Around) (outer : List Env) (s : Shared) (H : Hp) (args : Args) (us : List Value) (vs : List V) (Q : VK) (E : XK), Room k A → Env0 P w K mg base A outer s H → BindsTo s fd args (ps.zip us) → Vals vs us → sp A s vs H Q E →
    codeAny (model P w) A (.call (.ref f) args) (CR CX outer P w H s Q E) s
section
variable {P : Program} {w : World} {K : PySem.W.Frag} {mg : Str → Option Value} {base : Heap}
theorem okA {CX : CXT} {x qual : Str} {st : Stmt} {f : Addr} {fd : FuncData} {N ps : List Str} {k : Nat} {sp : Around → Shared → Sp} (F : Fun K x qual st f fd) (S : FnScope N ps (defScope st)) (len : ∀ A s vs H Q E, sp A s vs H Q E → vs.length = ps.length)
    (body : ∀ (cdv : Value) (A : Around) (outer : List Env) (s : Shared) (H : Hp) (vs : List V) (Q : VK) (E : XK), Room k (A.deeper (envOfC qual (defScope st) s.heap.objs.size f cdv)) → sp A s vs H Q E →
      ∃ t, PSs (cxOf CX P w K mg base N qual (defScope st) f cdv A outer s H E) (defBody st) t ∧ t { nx := fun _ H' => Q .non H', rt := Q } (start N vs) H) : FnA P w K mg base CX (k + 1) f fd ps sp := by
  obtain ⟨oc, od, kV, doc, pm, an, cdv, ct, osl, rfl, lk, hcd⟩ := F.ex
  refine ⟨len, fun A outer s H args us vs Q E hr e0 bind r h => ?_⟩
  have KX : K.In s.heap := e0.mod.kin.keeps fun b o e => (e0.bs b o e).1
  have noLim : s.heap.NoLimit := e0.mod.nolimit.keeps fun b o e => (e0.bs b o e).1
  have kinds : ∀ z ∈ ps.zip us, (defScope st).names.lookup z.1 = some .local ∨ ((defScope st).names.lookup z.1 = some .cell ∧ ((cellsFrom (s.heap.objs.size + 1) (defScope st).names []).lookup z.1).isSome = true) := fun ⟨n, v⟩ hz => by
    rcases S.par n (List.of_mem_zip hz).1 with q | q
    · exact .inl q
    · exact .inr ⟨q, PySem.W.cellsFrom_some _ _ _ (.inl q)⟩
  refine codeAny_call_function hr.depth (KX _ _ lk) rfl S.co S.gen rfl (PySem.W.codeRec_of KX hcd) (bind _ _ _ _ (wpAny_newFunctionEnv_cells S.kind kinds fun env he s1 z => ?_))
  subst he
  obtain ⟨t, ht, hq⟩ := body cdv A outer s H vs Q E (hr.deeper _) h
  refine ⟨noLim.keeps z.toInCall.keep, codeAny_func (wpAny_mono (ht.run [] s1 (start N vs) H _ (inv_start S hr.hd e0 (len _ _ _ _ _ _ h) r z) hq) (fun fl s' got => ?_) fun e s' got => got)⟩
  cases fl with
  | ret u => obtain ⟨v, σ', H', J, rv, q⟩ := got; exact ⟨v, H', J.os, J.bare, J.base, J.hok, rv, q⟩
  | next => obtain ⟨σ', H', J, q⟩ := got; exact ⟨V.non, H', J.os, J.bare, J.base, J.hok, rfl, q⟩
  | brk => obtain ⟨_, _, _, q⟩ := got; exact q.elim
  | cont => obtain ⟨_, _, _, q⟩ := got; exact q.elim
end
/-! iter of a tuple, and an own __iter__ that hands it back -/
/-- at it: an iterator over the tuple at t, at its beginning -/
def TitO (t it : Addr) : HO := .ext fun h => h.get? it = some { cls := .type "tuple_iterator", data := .fields #[.ref t, .int 0 0] }
theorem titO_ok {P : Program} {w : World} {H : Hp} {h : Heap} {t it : Addr} (e : h.get? it = some { cls := .type "tuple_iterator", data := .fields #[.ref t, .int 0 0] }) : ObjOk P w H h it (TitO t it) := ⟨e, ⟨_, e⟩, fun _ _ p k => k _ p⟩
section
variable {X : Cx}
def rIterT (K : PySem.W.Frag) (n : Nat) : List V → Hp → VK → Prop := fun xs H Q => ∃ (t : Addr) (zs : List V), xs = [.ref t] ∧ SqT K H t zs ∧ ∀ it, H it = none → n ≤ it → Q (.ref it) (upd H it (TitO t it))
theorem call_iterT : CallR X (.builtin "iter") (rIterT X.K X.s_0.heap.objs.size) := by
  intro pins s σ H xs us Q I r h
  obtain ⟨t, zs, rfl, hq, q⟩ := h
  rw [Vals.ref1 r]
  obtain ⟨its, rv, pl, hz⟩ := I.tuple hq
  refine Calls.call_function_entry (by decide +kernel) (by decide +kernel) PySem.W.kdk_entry_iter (PySem.W.kdk_args_iter _) ?_
  unfold Builtin.«iter»
  refine wpAny_bind (m := someArgs "iter" 1 2 _) (wpAny_of_eq (a := [Value.ref t]) (by first | rfl | kernel_rfl!) ?_)
  show wpAny _ _ (pyIter (.ref t) >>= _) _ _ _; refine wpAny_bind (wpAny_pyIter_tuple pl (wpAny_pure ⟨_, rfl, ?_⟩))
  exact ⟨.ref s.heap.objs.size, _, I.laid (t' := s.toks) (fun b u e => Heap.get?_push_of_some _ e) (Nat.le_refl _) (titO_ok (Heap.get?_push_size _ rfl)), rfl, q _ (I.hok.fresh (Nat.le_refl _)) I.sz⟩
/-- what an own __iter__ promises that hands back iter(t), t a tuple -/
def spIterT (K : PySem.W.Frag) (C : Addr) (T : List (Str × V) → Addr → List V → Prop) : Around → Shared → Sp := fun _ s vs H Q _ => ∃ (a dx : Addr) (fs : List (Str × V)), vs = [.ref a] ∧ H a = some (.ins C dx fs) ∧ ∃ t zs, T fs t zs ∧ SqT K H t zs ∧
  ∀ it, H it = none → s.heap.objs.size ≤ it → Q (.ref it) (upd H it (TitO t it))
/-- for x in o, o an instance with such an __iter__ -/
def iOwnT (K : PySem.W.Frag) (C : Addr) (T : List (Str × V) → Addr → List V → Prop) (te : TE) : TI := fun σ H R => te σ H fun x H1 => ∃ a dx fs t zs, x = .ref a ∧ H1 a = some (.ins C dx fs) ∧ T fs t zs ∧ SqT K H1 t zs ∧ R (Itt K t) H1
theorem pi_ownT {C g : Addr} {fd : FuncData} {n : Nat} {T : List (Str × V) → Addr → List V → Prop} {tg e : Expr} {te : TE} (hs : PySem.W.findIn X.K (.ref C) "__iter__" = some (some (.ref g))) (hf : PySem.W.isFn X.K (.ref g) = true) (F : FnA X.prog X.w X.K X.mg X.base CX0 n g fd ["self"] (spIterT X.K C T)) (hb : Binds X.K fd ["self"] []) (hr : Room n X.A) (he : PE X e te) :
    PI X tg e (iOwnT X.K C T te) := by
  refine ⟨fun pins s σ H R I h => thn (he.run pins s σ H _ I h) fun v s1 ⟨x, H1, I1, r1, q1⟩ => ?_⟩
  obtain ⟨a, dx, fs, t, zs, rfl, ha, hT, hq, q⟩ := q1
  obtain rfl : v = Value.ref a := r1
  obtain ⟨mA, J, _⟩ := ins_get I1.hok ha
  obtain ⟨od, J, _⟩ := J.look
  obtain ⟨m, hF⟩ := I1.fr
  refine PySem.W.owit_iter hF I1.ok.mod.kin J hs hf (wpAny_call (codeAny_mono (F.run X.A X.stack s1 H1 ⟨[.ref a], []⟩ [.ref a] [.ref a] (fun z H2 => ∃ it, z = .ref it ∧ H1 it = none ∧ s1.heap.objs.size ≤ it ∧ H2 = upd H1 it (TitO t it)) (fun _ _ _ => False) hr I1.env0
    (by have := hb s1 [.ref a] I1.kIn rfl; simpa using this) (.cons rfl .nil) ⟨a, dx, fs, rfl, ha, t, zs, hT, hq, fun it h1 h2 => ⟨it, rfl, h1, h2, rfl⟩⟩) fun r s2 got => ?_))
  rcases r with e | (_ | _ | _ | u)
  · exact got.elim
  · exact got.elim
  · exact got.elim
  · exact got.elim
  · obtain ⟨z, H2, I2, rz, it, rfl, h1, h2, rfl⟩ := I1.after got
    obtain rfl : u = Value.ref it := rz
    have at_ : s2.heap.get? it = some { cls := .type "tuple_iterator", data := .fields #[.ref t, .int 0 0] } := (I2.hok it _ upd_same).1
    have I3 : Inv X pins σ H1 s2 := by
      have z := ItX.inv_drop I2 (φ := _) upd_same
      rw [ItX.dropH_upd h1] at z
      exact z
    refine wpAny_bind (wpAny_typeOf (T := "tuple_iterator") ⟨_, at_, rfl⟩ (wpAny_of_eq PySem.F.slot_tuple_iterator_next.lookup ?_))
    exact ⟨it, [it], _, _, H1, rfl, I3, turn_tuple t it, ⟨_, at_, rfl, rfl⟩, (fun b hb => by
      have e : b = it := by simpa using hb
      rw [e]
      exact I1.fpOk h2 h1), q⟩
end
end Kx

set_option maxHeartbeats 4000000
namespace Kx
open PySem PySem.Spec PyProof.Rows L2
/-! tuple(dict): the keys in order -/
section
variable {prog : Program} {w : World} {A : Around} {E : Value → Shared → Prop} {s : Shared} {d : Addr} {n : Nat} {P : Nat → Value → Prop} {OK : Heap → Prop}
theorem code_tuple_new_dict {Q₁ : Value → Shared → Prop} (S : PySem.W.KdlSrc prog w "dict" d d n P OK) (hh : A.handled = none) (hok : OK s.heap) (hn : n ≤ sizeLine)
    (h : ∀ (h' : Heap) (tk : Nat) (acc : Array Value), (∀ b o, s.heap.get? b = some o → h'.get? b = some o) → ItemsOf P acc n →
      Q₁ (.ref h'.objs.size) { s with heap := h'.push { cls := .type "tuple", data := .seq acc }, toks := tk }) :
    codeAny (model prog w) A (.call (.builtin "tuple.__new__") ⟨[.type "tuple", .ref d], []⟩) (wants Q₁ E) s := by
  refine codeAny_of_tree ?_
  show wpAny _ A.in1 (do checkBuiltinCall "tuple.__new__" ⟨[.type "tuple", .ref d], []⟩; again (.builtin "tuple.__new__" ⟨[.type "tuple", .ref d], []⟩)) _ _ s
  refine wpAny_bind (wpAny_of_eq (F.newCall_tuple_1 _) (wpAny_pure ⟨plainId_quiet F.plain_tuple_new _, codeAny_builtin F.entry_tuple_new ?_⟩))
  rw [Around.under_plainId F.plain_tuple_new _]
  have hsub := sub_tuple_self
  have hinit := init_tuple_lookup
  have hmh := madeHere_tuple
  obtain ⟨od, hod, hcd⟩ := S.type _ hok
  have hTI : s.TypeIs (.ref d) "dict" := ⟨od, hod, hcd⟩
  have hh1 : A.in1.handled = none := hh
  wp_walk using wpAny_typeOf hTI, PySem.W.kdu_collect (A := A.in1) S hh1 hok hn
  intro h' tk acc hk hacc
  show wpAny _ _ (Builtin.Tuple.tupleExact acc.toList.toArray >>= fun v => ret v) _ _ _
  unfold Builtin.Tuple.tupleExact
  refine wpAny_bind (wpAny_newObj_type ?_ (by show acc.toList.toArray.size ≤ sizeLine; simp only [Array.toArray_toList]; rw [hacc.1]; exact hn))
  refine wpAny_pure ?_
  have e : acc.toList.toArray = acc := by simp
  rw [e]
  exact h h' tk acc hk hacc
theorem call_tuple_dict {Q : Value → Shared → Prop} (S : PySem.W.KdlSrc prog w "dict" d d n P OK) (hh : A.handled = none) (hok : OK s.heap) (hn : n ≤ sizeLine)
    (hQ : ∀ (h' : Heap) (tk : Nat) (acc : Array Value), (∀ b o, s.heap.get? b = some o → h'.get? b = some o) → ItemsOf P acc n →
      Q (.ref h'.objs.size) { s with heap := h'.push { cls := .type "tuple", data := .seq acc }, toks := tk }) :
    wpAny (model prog w) A (call (.type "tuple") [.ref d]) Q E s := by
  refine callType_codes (Q₁ := fun obj s₁ => s₁.TypeIs obj "tuple" ∧ Q obj s₁) F.called_tuple (F.typeCall_tuple_1 _) F.entry_object_init
    (code_tuple_new_dict (A := A.in1) S hh hok hn fun h' tk acc hk hacc => ⟨⟨_, Heap.get?_push_size _ rfl, rfl⟩, hQ h' tk acc hk hacc⟩) fun obj s₁ h₁ => ?_
  exact ⟨h₁.1, F.args_object_init_2 obj _, object_init_meets F.called_tuple.init.lookup F.called_tuple.made (by decide) prog w A.in1 _ s₁ ⟨h₁.1, rfl, h₁.2⟩⟩
end
def rTupD : List V → Hp → VK → Prop := fun xs H Q => ∃ p kvs, xs = [.ref p] ∧ H p = some (.dK kvs) ∧ ∀ q, H q = none → Q (.ref q) (upd H q (.tup (kvs.map fun kv => kV kv.1)))
theorem call_tuple_dK {X : Cx} (hc : X.calm = true) : CallR X (.type "tuple") rTupD := by
  intro pins s σ H xs us Q I r h
  obtain ⟨p, kvs, e, hk, q⟩ := h
  subst e
  obtain ⟨u, eu, rx⟩ := vals1 r
  subst eu
  obtain rfl : u = Value.ref p := rx
  obtain ⟨z, lo, vs, rk, hd⟩ := (show ObjOk X.prog X.w H s.heap p (.dK kvs) from I.hok p _ hk)
  obtain ⟨ep, hat⟩ := hd.dictAt
  have hl : kvs.length = vs.length := Paired.length rk
  refine call_tuple_dict (PySem.W.kdl_dict (knd := mixKind X.prog X.w) (kvs := vs) (ep := ep) lo) (I.ok.hd hc) hat (by rw [← hl]; exact z) fun h' tk acc' hkeep hacc => ?_
  have I2 : Inv X pins σ H { s with heap := h', toks := tk } := I.kept hkeep
  refine ⟨.ref h'.objs.size, upd H h'.objs.size (.tup (kvs.map fun kv => kV kv.1)), I2.laid (t' := tk) (fun c o e => Heap.get?_push_of_some _ e) (Nat.le_refl _) (show ObjOk X.prog X.w _ _ _ (.tup (kvs.map fun kv => kV kv.1)) from ⟨?_, acc'.toList, ?_, ?_⟩), rfl, q _ (I2.hok.fresh (Nat.le_refl _))⟩
  · rw [List.length_map]; exact z
  · have el : acc'.toList.length = acc'.size := by simp
    refine vals_of_at (by rw [List.length_map, el, hacc.1, hl]) fun j x w h1 h2 => ?_
    obtain ⟨k, y, hky, hi⟩ := hacc.2 j w (by rw [← Array.getElem?_toList]; exact h2)
    have e1 : (kvs.map (·.1))[j]? = some k := by
      rw [KV.keys rk, List.getElem?_map, hky] <;> rfl
    have e2 : (kvs.map fun kv => kV kv.1)[j]? = some (kV k) := by
      have e3 : (kvs.map fun kv => kV kv.1) = (kvs.map (·.1)).map kV := by rw [List.map_map] <;> rfl
      rw [e3, List.getElem?_map, e1] <;> rfl
    rw [e2] at h1
    cases h1
    exact keyIs_rel hi
  · rw [Array.toArray_toList]; exact IsTup.new _ _
end Kx

set_option maxHeartbeats 4000000
namespace Kx
open PySem L2
/-! rows of kinds: what is asked of them, in plain words -/
/-- a thing that is asked about: its kind, and its text is of known length -/
structure Thing (H : Hp) (x : V) (n : String) : Prop where
  kd : Kd H x n
  fine : ∀ z, x = .str z → PyData.strOk z = true ∧ z.length ≤ 900
theorem Thing.keep {H H' : Hp} {x : V} {n : String} (t : Thing H x n) (s : Same H H') : Thing H' x n := ⟨t.kd.keep s, t.fine⟩
theorem Kd.uniq {H : Hp} {x : V} {n m : String} (a : Kd H x n) (b : Kd H x m) : n = m := by
  cases a with
  | non => cases b; rfl
  | bl => cases b; rfl
  | int => cases b; rfl
  | str => cases b; rfl
  | lst a xs h => cases b with
    | lst _ ys h' => rfl
    | tup _ ys h' => rw [h] at h'; cases h'
    | dct _ ys h' => rw [h] at h'; cases h'
  | tup a xs h => cases b with
    | lst _ ys h' => rw [h] at h'; cases h'
    | tup _ ys h' => rfl
    | dct _ ys h' => rw [h] at h'; cases h'
  | dct a xs h => cases b with
    | lst _ ys h' => rw [h] at h'; cases h'
    | tup _ ys h' => rw [h] at h'; cases h'
    | dct _ ys h' => rfl
/-- a row, as it stands: a pair, or no sequence of two -/
inductive RowIs (H : Hp) : V → Option (V × V) → Prop where
  | lst {b : Addr} {n a : V} {t u : String} (h : H b = some (.lst [n, a])) (hn : Thing H n t) (ha : Thing H a u) : RowIs H (.ref b) (some (n, a))
  | tup {b : Addr} {n a : V} {t u : String} (h : H b = some (.tup [n, a])) (hn : Thing H n t) (ha : Thing H a u) : RowIs H (.ref b) (some (n, a))
  | lstN {b : Addr} {xs : List V} (h : H b = some (.lst xs)) (l : xs.length ≠ 2) : RowIs H (.ref b) none
  | tupN {b : Addr} {xs : List V} (h : H b = some (.tup xs)) (l : xs.length ≠ 2) : RowIs H (.ref b) none
  | oth {y : V} {n : String} (h : Kd H y n) (l : seqV n = false) : RowIs H y none
theorem RowIs.keep {H H' : Hp} {y : V} {r : Option (V × V)} (h : RowIs H y r) (s : Same H H') : RowIs H' y r := by
  cases h with
  | lst h hn ha => exact .lst (s _ _ h) (hn.keep s) (ha.keep s)
  | tup h hn ha => exact .tup (s _ _ h) (hn.keep s) (ha.keep s)
  | lstN h l => exact .lstN (s _ _ h) l
  | tupN h l => exact .tupN (s _ _ h) l
  | oth h l => exact .oth (h.keep s) l
theorem RowIs.kd {H : Hp} {y : V} {r : Option (V × V)} (h : RowIs H y r) : ∃ n, Kd H y n ∧ (seqV n = false → r = none) := by
  cases h with
  | lst h hn ha => exact ⟨_, .lst _ _ h, fun z => nomatch z⟩
  | tup h hn ha => exact ⟨_, .tup _ _ h, fun z => nomatch z⟩
  | lstN h l => exact ⟨_, .lst _ _ h, fun _ => rfl⟩
  | tupN h l => exact ⟨_, .tup _ _ h, fun _ => rfl⟩
  | oth h l => exact ⟨_, h, fun _ => rfl⟩
/-- the word for a row that may not follow the names -/
def rowWord (names : List Str) : Option (V × V) → Option Str
  | none => some "row"
  | some (.str z, a) => if isLab z then (if z = "year" then some "year" else if z ∈ names then some "double" else if wholeV a 0 2 then none else some "arity") else some "label"
  | some _ => some "label"
theorem rowWord_lab {names : List Str} {n a : V} (h : labV n = false) : rowWord names (some (n, a)) = some (Str.ofString "label") := by
  cases n with
  | str z =>
    have h : isLab z = false := h
    show (if isLab z = true then _ else _) = _
    rw [h]
    rfl
  | _ => rfl
theorem lab_str {n : V} (h : labV n = true) : ∃ z, n = .str z ∧ isLab z = true := by
  cases n with
  | str z => exact ⟨z, rfl, h⟩
  | _ => cases h
def wordV : Option Str → V
  | none => .non
  | some w => .str w
/-- the dict of the kinds that were read -/
def kvOf (ps : List (Str × V)) : List (Key × V) := ps.map fun p => (Sum.inr p.1, p.2)
theorem kv_in (z : Str) : ∀ ps : List (Str × V), (valV (kvOf ps) (Sum.inr z : Key)).isSome = decide (z ∈ ps.map (·.1))
  | [] => rfl
  | p :: ps => by
    have ih := kv_in z ps
    by_cases e : p.1 = z
    · have e1 : valV (kvOf (p :: ps)) (Sum.inr z : Key) = some p.2 := valV_pos (congrArg Sum.inr e)
      rw [e1]
      simp [e]
    · have e1 : valV (kvOf (p :: ps)) (Sum.inr z : Key) = valV (kvOf ps) (Sum.inr z : Key) := valV_neg fun q => e (Sum.inr.inj q)
      have e2 : ¬ z = p.1 := fun q => e q.symm
      rw [e1, ih]
      simp [e2]
structure Km (mg : Str → Option Value) : Prop where
  year : ∃ t, mg "YEAR" = some (.str "year" t)
  arity : ∃ t, mg "MOST_ARITY" = some (.int 2 t)
  many : ∃ t, mg "MOST_KINDS" = some (.int 6 t)
def spRowFault : Sp := fun vs H Q _ => ∃ (y : V) (d : Addr) (ps : List (Str × V)) (r : Option (V × V)), vs = [y, .ref d] ∧ RowIs H y r ∧ H d = some (.dK (kvOf ps)) ∧ ∀ H', Same H H' → Q (wordV (rowWord (ps.map (·.1)) r)) H'
section
variable {P : Program} {w : World} {K : PySem.W.Frag} {mg : Str → Option Value} {base : Heap}
theorem scRowFault : FnScope ["row", "arities", "name", "arity"] ["row", "arities"] (defScope sRowFault) := ⟨rfl, rfl, rfl, by decide +kernel, rfl, by decide +kernel, by decide +kernel⟩
theorem ok_rowfault {f : Addr} {fd : FuncData} (F : Fun K "_row_fault" "_row_fault" sRowFault f fd) (m : mg "_row_fault" = some (.ref f)) (T : Bl mg) (B : Bm mg) (M : Km mg) (Sq : HasF P w K mg base "is_sequence" 1 ["thing"] spSeq) (Lb : HasF P w K mg base "is_label" 1 ["thing"] spLabel) (W : HasF P w K mg base "is_whole" 1 ["thing", "low", "high"] spWhole) : HasF P w K mg base "_row_fault" 2 ["row", "arities"] spRowFault := by
  refine ⟨f, fd, ?_, m, F.kp, F.binds fun _ _ _ _ _ _ us hl => match us, hl with | [_, _], _ => rfl⟩
  obtain ⟨f1, fd1, Sq⟩ := Sq; obtain ⟨f2, fd2, Lb⟩ := Lb; obtain ⟨f3, fd3, W⟩ := W
  obtain ⟨t1, mY⟩ := M.year; obtain ⟨t2, mA⟩ := M.arity
  refine F.ok scRowFault (fun vs H Q E h => ?_) (fun cdv A outer s H vs Q E hr h => ?_)
  · obtain ⟨a, b, c, d, rfl, _⟩ := h
    rfl
  · obtain ⟨y, d, ps, r, rfl, hy, hd, k⟩ := h
    have hu := hu_of hr
    refine ⟨_, (C8.pss_cut (ps_if (PW.pt (pw_or (pt_not (pt_val (pe_call Sq.G hr (by rfl) Sq.m Sq.kp Sq.b .nil pass0 (pa_cons (pv 0) pa_nil)))) (pw_or1 (pt_cmpR op_ne (pe_callB call_len_seq (by rfl) T.len PySem.boot_len (pa_cons (pv 0) pa_nil)) pe_int (nomark _))))) (pss_one (ps_ret pe_str)) pss_nil)
    (C8.pss_cut (ps_asg (pv 0) (pg_or (pg_lst rfl (pgs_cons (pg_name (i := 2) scRowFault.nd rfl (.inl rfl)) (pgs_cons (pg_name (i := 3) scRowFault.nd rfl (.inl rfl)) pgs_nil))) (pg_tup rfl (pgs_cons (pg_name (i := 2) scRowFault.nd rfl (.inl rfl)) (pgs_cons (pg_name (i := 3) scRowFault.nd rfl (.inl rfl)) pgs_nil)))))
    (pss_cons (ps_if (pt_not (pt_val (pe_call Lb.G hr (by rfl) Lb.m Lb.kp Lb.b .nil pass0 (pa_cons (pv 2) pa_nil)))) (pss_one (ps_ret pe_str)) pss_nil)
    (pss_cons (ps_if (pt_cmpR op_eq (pv 2) (pe_glob (v := .str "year") rfl mY ⟨_, rfl⟩) (nomark _)) (pss_one (ps_ret pe_str)) pss_nil)
    (pss_cons (ps_if (pt_cmp (pc_din hu (pv 2) (pv 1))) (pss_one (ps_ret pe_str)) pss_nil)
    (pss_cons (ps_if (pt_not (pt_val (pe_call W.G hr (by rfl) W.m W.kp W.b .nil pass0 (pa_cons (pv 3) (pa_cons pe_int (pa_cons (pe_glob (v := .int 2) rfl mA ⟨_, rfl⟩) pa_nil)))))) (pss_one (ps_ret pe_str)) pss_nil)
    (pss_one (ps_ret pe_non)))))))), ?_⟩
    refine ⟨fun σ H1 => ∃ (b : Addr) (n a : V) (t u : String), y = .ref b ∧ r = some (n, a) ∧ σ = [some y, some (.ref d), none, none] ∧ Same H H1 ∧ (H1 b = some (.lst [n, a]) ∨ H1 b = some (.tup [n, a])) ∧ Thing H1 n t ∧ Thing H1 a u, ?_, ?_⟩
    · obtain ⟨n, kd, kn⟩ := hy.kd
      refine ⟨_, rfl, y, n, rfl, kd, fun H1 s1 => ⟨_, rfl, ?_⟩⟩
      have hy1 := hy.keep s1
      have bad : r = none → ∀ H', Same H H' → Q (.str "row") H' := fun e H' s => by
        subst e
        exact k H' s
      cases e1 : seqV n with
      | false => exact iteT (bad (kn e1) _ s1)
      | true =>
        refine iteF ?_
        cases hy1 with
        | lst h hn ha => exact ⟨_, rfl, _, _, rfl, .inl (SqL.of h), rfl, _, rfl, iteF ⟨_, _, _, _, _, rfl, rfl, rfl, s1, .inl h, hn, ha⟩⟩
        | tup h hn ha => exact ⟨_, rfl, _, _, rfl, .inr (SqT.of h), rfl, _, rfl, iteF ⟨_, _, _, _, _, rfl, rfl, rfl, s1, .inr h, hn, ha⟩⟩
        | lstN h l =>
          refine ⟨_, rfl, _, _, rfl, .inl (SqL.of h), rfl, _, rfl, ?_⟩
          rw [decide_eq_false (fun e => l (by have := V.int.inj e; omega))]
          exact iteT (bad rfl _ s1)
        | tupN h l =>
          refine ⟨_, rfl, _, _, rfl, .inr (SqT.of h), rfl, _, rfl, ?_⟩
          rw [decide_eq_false (fun e => l (by have := V.int.inj e; omega))]
          exact iteT (bad rfl _ s1)
        | oth h l =>
          rw [← (kd.keep s1).uniq h, e1] at l
          cases l
    rintro σ H1 ⟨b, n, a, t, u, rfl, rfl, rfl, s1, hb, hn, ha⟩
    have hd1 := s1 _ _ hd
    refine ⟨fun σ H' => σ = [some (.ref b), some (.ref d), some n, some a] ∧ H' = H1, ?_, ?_⟩
    · refine ⟨_, rfl, ?_⟩
      rcases hb with hb | hb
      · exact .inl ⟨b, _, rfl, SqL.of hb, rfl, _, _, rfl, _, _, rfl, rfl, rfl, rfl⟩
      · exact .inr ⟨b, _, rfl, SqT.of hb, rfl, _, _, rfl, _, _, rfl, rfl, rfl, rfl⟩
    rintro σ H2 ⟨rfl, rfl⟩
    refine ⟨_, rfl, n, t, rfl, hn.kd, (fun z e => Nat.le_of_lt (small1000 (by have := (hn.fine z e).2; omega))), _, rfl, ?_⟩
    cases e2 : labV n with
    | false =>
      refine iteT ?_
      have q := k _ s1
      rw [rowWord_lab e2] at q
      exact q
    | true =>
    refine iteF ?_
    obtain ⟨z, rfl, hz⟩ := lab_str e2
    have word : ∀ w' : Option Str, (if z = "year" then some (Str.ofString "year") else if z ∈ ps.map (·.1) then some (Str.ofString "double") else if wholeV a 0 2 = true then none else some (Str.ofString "arity")) = w' → ∀ H', Same H H' → Q (wordV w') H' := fun w' e H' s => by
      have q := k H' s
      have e3 : rowWord (ps.map (·.1)) (some (.str z, a)) = w' := by
        show (if isLab z = true then _ else _) = w'
        rw [if_pos hz]
        exact e
      rw [e3] at q
      exact q
    refine ⟨_, rfl, rfl, _, rfl, ?_⟩
    refine ite2 (fun h1 => ?_) (fun h1 => ?_)
    · have e3 : z = Str.ofString "year" := V.str.inj (of_decide_eq_true h1)
      exact word (some "year") (if_pos e3) _ s1
    have n3 : ¬ z = Str.ofString "year" := fun e => h1 (decide_eq_true (congrArg V.str e))
    refine ⟨_, rfl, _, rfl, d, _, rfl, DGet.k (k := Sum.inr z) hd1, _, rfl, ?_⟩
    have kin := kv_in z ps
    cases e4 : valV (kvOf ps) (Sum.inr z : Key) with
    | some v =>
      rw [e4] at kin
      have m4 : z ∈ ps.map (·.1) := of_decide_eq_true kin.symm
      exact iteT (word (some "double") (by rw [if_neg n3, if_pos m4]) _ s1)
    | none =>
      rw [e4] at kin
      have m4 : ¬ z ∈ ps.map (·.1) := of_decide_eq_false kin.symm
      refine iteF ⟨_, rfl, a, u, 0, 2, rfl, ha.kd, _, rfl, ?_⟩
      cases e5 : wholeV a 0 2 with
      | false => exact iteT (word (some "arity") (by rw [if_neg n3, if_neg m4, e5]; rfl) _ s1)
      | true => exact iteF (word none (by rw [if_neg n3, if_neg m4, e5]; rfl) _ s1)
end
end Kx

set_option maxHeartbeats 4000000
namespace Kx
open PySem PySem.Spec PyProof.Rows L2
/-! plain data of which dicts of one pair are part, and its repr -/
inductive Dd (H : Hp) : Nat → V → PyData → Prop where
  | non {n : Nat} : Dd H n .non .none
  | bl {n : Nat} (b : Bool) : Dd H n (.bl b) (.bool b)
  | int {n : Nat} (i : Int) (h : i.natAbs < 10 ^ 9) : Dd H n (.int i) (.int i)
  | str {n : Nat} (z : Str) (h : Fine z) : Dd H n (.str z) (.str z)
  | lst {n : Nat} {a : Addr} {xs : List V} {ds : List PyData} (h : H a = some (.lst xs)) (l : xs.length ≤ 32) (e : xs.length = ds.length) (f : ∀ (i : Nat) (x : V) (d : PyData), xs[i]? = some x → ds[i]? = some d → Dd H n x d) : Dd H (n + 1) (.ref a) (.list ds)
  | tup {n : Nat} {a : Addr} {xs : List V} {ds : List PyData} (h : H a = some (.tup xs)) (l : xs.length ≤ 32) (e : xs.length = ds.length) (f : ∀ (i : Nat) (x : V) (d : PyData), xs[i]? = some x → ds[i]? = some d → Dd H n x d) : Dd H (n + 1) (.ref a) (.tuple ds)
  | dct {n : Nat} {a : Addr} {z : Str} {v : V} {dv : PyData} (h : H a = some (.dK [(Sum.inr z, v)])) (hz : Fine z) (hv : Dd H n v dv) : Dd H (n + 1) (.ref a) (.dict [(.str z, dv)])
theorem Dd.keep {H H' : Hp} {n : Nat} {x : V} {d : PyData} (h : Dd H n x d) (s : Same H H') : Dd H' n x d := by
  induction h with
  | non => exact .non
  | bl b => exact .bl b
  | int i h => exact .int i h
  | str z h => exact .str z h
  | lst h l e f ih => exact .lst (s _ _ h) l e ih
  | tup h l e f ih => exact .tup (s _ _ h) l e ih
  | dct h hz hv ih => exact .dct (s _ _ h) hz ih
theorem Dd.up {H : Hp} {n : Nat} {x : V} {d : PyData} (h : Dd H n x d) : Dd H (n + 1) x d := by
  induction h with
  | non => exact .non
  | bl b => exact .bl b
  | int i h => exact .int i h
  | str z h => exact .str z h
  | lst h l e f ih => exact .lst h l e ih
  | tup h l e f ih => exact .tup h l e ih
  | dct h hz hv ih => exact .dct h hz ih
theorem Dd.thing {H : Hp} {n : Nat} {x : V} {d : PyData} (h : Dd H n x d) : ∃ t, Thing H x t := by
  cases h with
  | non => exact ⟨_, .non, fun z e => nomatch e⟩
  | bl b => exact ⟨_, .bl b, fun z e => nomatch e⟩
  | int i h => exact ⟨_, .int i, fun z e => nomatch e⟩
  | str z h => exact ⟨_, .str z, fun y e => by cases e; exact ⟨h.1, Nat.le_trans h.2 (by decide)⟩⟩
  | lst h l e f => exact ⟨_, .lst _ _ h, fun z e => nomatch e⟩
  | tup h l e f => exact ⟨_, .tup _ _ h, fun z e => nomatch e⟩
  | dct h hz hv => exact ⟨_, .dct _ _ h, fun z e => nomatch e⟩
/-- a bound of what it takes -/
def BB : Nat → Nat
  | 0 => 40
  | n + 1 => 32 * (BB n + 1) + 2
theorem BB_up : ∀ n, 40 ≤ BB n ∧ BB n ≤ BB (n + 1)
  | 0 => by decide
  | n + 1 => by
    have h := BB_up n
    have e1 : BB (n + 1) = 32 * (BB n + 1) + 2 := rfl
    have e2 : BB (n + 1 + 1) = 32 * (BB (n + 1) + 1) + 2 := rfl
    omega
/-- small, shown in few signs -/
def Sm (n : Nat) (d : PyData) : Prop := d.depth ≤ n ∧ d.showable = true ∧ d.leavesShort 10 = true ∧ d.bulk ≤ BB n
theorem all_sm {n : Nat} : ∀ {ds : List PyData}, (∀ d ∈ ds, Sm n d) → PyData.depthAll ds ≤ n ∧ PyData.showableAll ds = true ∧ PyData.leavesShortAll 10 ds = true ∧ PyData.bulkAll ds ≤ ds.length * (BB n + 1)
  | [], _ => ⟨Nat.zero_le _, rfl, rfl, by simp [PyData.bulkAll]⟩
  | d :: ds, h => by
    obtain ⟨h1, h2, h3, h4⟩ := h d (.head _)
    obtain ⟨g1, g2, g3, g4⟩ := all_sm fun e m => h e (.tail _ m)
    refine ⟨Nat.max_le.mpr ⟨h1, g1⟩, ?_, ?_, ?_⟩
    · show (PyData.showable d && PyData.showableAll ds) = true
      rw [h2, g2]
      rfl
    · show (PyData.leavesShort 10 d && PyData.leavesShortAll 10 ds) = true
      rw [h3, g3]
      rfl
    · show PyData.bulk d + 1 + PyData.bulkAll ds ≤ (ds.length + 1) * (BB n + 1)
      rw [Nat.add_mul, Nat.one_mul]
      omega
theorem int_short {i : Int} (h : i.natAbs < 10 ^ 9) : decide (i.natAbs.log2 < 1920) = true ∧ (PyData.shown (.int i)).length ≤ 10 := by
  refine ⟨decide_eq_true ?_, ?_⟩
  · by_cases e : i.natAbs = 0
    · rw [e]; decide
    · have : i.natAbs < 2 ^ 30 := by omega
      have := (Nat.log2_lt e).mpr this
      omega
  · have e := int_text_length_le10 (k := 9) (by decide) h
    show (Str.ofString (toString i)).length ≤ 10
    rw [PySem.ofString_length]
    omega
theorem fine_signs {z : Str} (h : Fine z) : (z.cps.toList.all fun c => decide (c < 16 ^ 8)) = true := by
  have h1 := h.1
  unfold PyData.strOk at h1
  rw [← Array.all_toList] at h1
  refine List.all_eq_true.mpr fun c hc => decide_eq_true ?_
  have := of_decide_eq_true (List.all_eq_true.mp h1 c hc)
  omega
theorem str_sm {n : Nat} {z : Str} (h : Fine z) : Sm n (.str z) := by
  refine ⟨Nat.zero_le _, rfl, fine_signs h, ?_⟩
  have := h.2
  have := (BB_up n).1
  have e : PyData.bulk (.str z) = z.length := rfl
  omega
theorem Dd.sm {H : Hp} {n : Nat} {x : V} {d : PyData} (h : Dd H n x d) : Sm n d := by
  induction h with
  | non => exact ⟨Nat.zero_le _, rfl, rfl, Nat.zero_le _⟩
  | bl b => exact ⟨Nat.zero_le _, rfl, rfl, Nat.zero_le _⟩
  | int i h => exact ⟨Nat.zero_le _, (int_short h).1, decide_eq_true (int_short h).2, Nat.zero_le _⟩
  | str z h => exact str_sm h
  | @lst n a xs ds h l e f ih =>
    obtain ⟨g1, g2, g3, g4⟩ := all_sm (n := n) (ds := ds) fun d hd => by
      obtain ⟨i, hi⟩ := List.mem_iff_getElem?.mp hd
      have lt : i < xs.length := by rw [e]; exact (List.getElem?_eq_some_iff.mp hi).1
      exact ih i xs[i] d (List.getElem?_eq_getElem lt) hi
    refine ⟨Nat.succ_le_succ g1, g2, g3, ?_⟩
    have e1 : BB (n + 1) = 32 * (BB n + 1) + 2 := rfl
    have e2 : ds.length * (BB n + 1) ≤ 32 * (BB n + 1) := Nat.mul_le_mul_right _ (by omega)
    show PyData.bulkAll ds ≤ _
    omega
  | @tup n a xs ds h l e f ih =>
    obtain ⟨g1, g2, g3, g4⟩ := all_sm (n := n) (ds := ds) fun d hd => by
      obtain ⟨i, hi⟩ := List.mem_iff_getElem?.mp hd
      have lt : i < xs.length := by rw [e]; exact (List.getElem?_eq_some_iff.mp hi).1
      exact ih i xs[i] d (List.getElem?_eq_getElem lt) hi
    refine ⟨Nat.succ_le_succ g1, g2, g3, ?_⟩
    have e1 : BB (n + 1) = 32 * (BB n + 1) + 2 := rfl
    have e2 : ds.length * (BB n + 1) ≤ 32 * (BB n + 1) := Nat.mul_le_mul_right _ (by omega)
    show PyData.bulkAll ds ≤ _
    omega
  | @dct n a z v dv h hz hv ih =>
    obtain ⟨h1, h2, h3, h4⟩ := ih
    obtain ⟨g1, g2, g3, g4⟩ := str_sm (n := n) hz
    refine ⟨?_, ?_, ?_, ?_⟩
    · show max (max (PyData.depth (.str z)) (PyData.depth dv)) 0 + 1 ≤ n + 1
      have : PyData.depth (.str z) = 0 := rfl
      omega
    · show (PyData.showable (.str z) && PyData.showable dv && true) = true
      rw [g2, h2]
      rfl
    · show (PyData.leavesShort 10 (.str z) && PyData.leavesShort 10 dv && true) = true
      rw [g3, h3]
      rfl
    · show PyData.bulk (.str z) + PyData.bulk dv + 2 + 0 ≤ _
      have e1 : BB (n + 1) = 32 * (BB n + 1) + 2 := rfl
      have e : PyData.bulk (.str z) = z.length := rfl
      have := hz.2
      omega
theorem Sm.fits {n : Nat} {d : PyData} (h : Sm n d) (l : n ≤ 3) : d.shown.length ≤ sizeLine := by
  have q := PyData.shown_le_bulk 10 (by decide) d h.2.2.1
  have b : BB n ≤ 1346658 := by
    rcases (by omega : n = 0 ∨ n = 1 ∨ n = 2 ∨ n = 3) with e | e | e | e <;> subst e <;> decide
  have := h.2.2.2
  rw [sizeLine_eq]
  omega
section
variable {X : Cx} {pins : List (Addr × Obj)} {σ : L2.St} {H : Hp} {s : Shared}
theorem readsAll_at {h : Heap} : ∀ {us : List Value} {ds : List PyData}, us.length = ds.length → (∀ (i : Nat) (u : Value) (d : PyData), us[i]? = some u → ds[i]? = some d → ∃ as, Reads h u d as) → ∃ as, ReadsAll h us ds as
  | [], [], _, _ => ⟨[], .nil⟩
  | [], _ :: _, e, _ => by cases e
  | _ :: _, [], e, _ => by cases e
  | u :: us, d :: ds, e, f => by
    obtain ⟨as, r1⟩ := f 0 u d rfl rfl
    obtain ⟨bs, r2⟩ := readsAll_at (us := us) (ds := ds) (Nat.succ.inj e) fun i u d h1 h2 => f (i + 1) u d h1 h2
    exact ⟨as ++ bs, .cons r1 r2⟩
def encK : Key → PyData
  | .inl i => .int i
  | .inr x => .str x
theorem mix_reads {h : Heap} {k : Key} {key : Value} (e : keyIs k key = true) : Reads h key (encK k) [] := by
  rcases keyIs_shape e with ⟨i, t, e1, e2⟩ | ⟨x, t, e1, e2⟩
  · subst e1; subst e2; exact .int i t
  · subst e1; subst e2; exact .str x t
/-- each shown as the library shows it -/
abbrev Shn (P : Program) (w : World) (h : Heap) (u : Value) (d : PyData) : Prop := ∃ bs, ReadAtMost h d.depth bs ∧ ReprK P w bs h d.depth u d.shown
theorem allK {P : Program} {w : World} {h : Heap} : ∀ {us : List Value} {ds : List PyData}, us.length = ds.length → (∀ (i : Nat) (u : Value) (d : PyData), us[i]? = some u → ds[i]? = some d → Shn P w h u d) →
    ∃ bs, ReadAtMost h (PyData.depthAll ds) bs ∧ ReprAllK P w bs h (PyData.depthAll ds) us (PyData.shownAll ds)
  | [], [], _, _ => ⟨[], (fun _ h => nomatch h), .nil⟩
  | [], _ :: _, e, _ => by cases e
  | _ :: _, [], e, _ => by cases e
  | u :: us, d :: ds, e, f => by
    obtain ⟨b1, hb1, k1⟩ := f 0 u d rfl rfl
    obtain ⟨b2, hb2, k2⟩ := allK (us := us) (ds := ds) (Nat.succ.inj e) fun i u d h1 h2 => f (i + 1) u d h1 h2
    refine ⟨b1 ++ b2, fun b hm => ?_, .cons ((k1.more fun b hb => List.mem_append_left _ hb).level_le (Nat.le_max_left _ _)) (k2.more_le (fun b hb => List.mem_append_right _ hb) (Nat.le_max_right _ _))⟩
    rcases List.mem_append.mp hm with hm | hm
    · obtain ⟨d', as', r', hd'⟩ := hb1 b hm
      exact ⟨d', as', r', Nat.le_trans hd' (Nat.le_max_left _ _)⟩
    · obtain ⟨d', as', r', hd'⟩ := hb2 b hm
      exact ⟨d', as', r', Nat.le_trans hd' (Nat.le_max_right _ _)⟩
theorem Dd.reads (I : Inv X pins σ H s) {n : Nat} {x : V} {d : PyData} (h : Dd H n x d) : ∀ u, RelV x u → ∃ as, Reads s.heap u d as := by
  induction h with
  | non => intro u r; cases r; exact ⟨_, .none⟩
  | bl b => intro u r; cases r; exact ⟨_, .bool b⟩
  | int i h => intro u r; obtain ⟨t, rfl⟩ := r; exact ⟨_, .int i t⟩
  | str z h => intro u r; obtain ⟨t, rfl⟩ := r; exact ⟨_, .str z t⟩
  | @lst n a xs ds h l e f ih =>
    intro u r
    cases r
    obtain ⟨its, rv, ⟨o, m, ho, hc, _, hd⟩, _⟩ := I.list (SqL.of h)
    have hl := rv.length
    obtain ⟨as, hr⟩ := readsAll_at (h := s.heap) (us := its) (ds := ds) (by omega) fun i u d h1 h2 => by
      have lt : i < xs.length := by have := (List.getElem?_eq_some_iff.mp h1).1; omega
      obtain ⟨u', hu, ru⟩ := rv.get (List.getElem?_eq_getElem lt)
      rw [h1] at hu
      cases hu
      exact ih i _ d (List.getElem?_eq_getElem lt) h2 u ru
    exact ⟨_, Reads.list ho hc hd (by simpa using hr)⟩
  | @tup n a xs ds h l e f ih =>
    intro u r
    cases r
    obtain ⟨its, rv, ⟨o, ho, hc, m, hd⟩, _⟩ := I.tuple (SqT.of h)
    have hl := rv.length
    obtain ⟨as, hr⟩ := readsAll_at (h := s.heap) (us := its) (ds := ds) (by omega) fun i u d h1 h2 => by
      have lt : i < xs.length := by have := (List.getElem?_eq_some_iff.mp h1).1; omega
      obtain ⟨u', hu, ru⟩ := rv.get (List.getElem?_eq_getElem lt)
      rw [h1] at hu
      cases hu
      exact ih i _ d (List.getElem?_eq_getElem lt) h2 u ru
    exact ⟨_, Reads.tuple ho hc hd (by simpa using hr)⟩
  | @dct n a z v dv h hz hv ih =>
    intro u r
    cases r
    obtain ⟨_, _, vs, rk, hd⟩ := dk_of I.hok h
    cases rk with
    | cons hp ht =>
      rename_i kv vs
      cases ht
      obtain ⟨k, w⟩ := kv
      obtain ⟨e1, e2⟩ := hp
      have e1 : (Sum.inr z : Key) = k := e1
      subst e1
      obtain ⟨as, r1⟩ := ih w e2
      exact ⟨a :: (as ++ []), PyProof.V.reads_dictOf (enc := encK) (fun k key e => mix_reads e) hd (.cons r1 .nil)⟩
/-- the parts of a thing that is shown -/
inductive Part (P : Program) (w : World) (h : Heap) : Value → PyData → Prop where
  | non : Part P w h .none .none
  | bl (b : Bool) : Part P w h (.bool b) (.bool b)
  | int (i : Int) (t : Tok) : Part P w h (.int i t) (.int i)
  | str (x : Str) (t : Tok) : Part P w h (.str x t) (.str x)
  | lst {a : Addr} {o : Obj} {vs : Array Value} {m : Nat} {xs : List PyData} (h1 : h.get? a = some o) (h2 : o.cls = .type "list") (h3 : o.data = .seq vs m) (l : vs.toList.length = xs.length) (k : ∀ (i : Nat) (u : Value) (d : PyData), vs.toList[i]? = some u → xs[i]? = some d → Shn P w h u d) : Part P w h (.ref a) (.list xs)
  | tup {a : Addr} {o : Obj} {vs : Array Value} {m : Nat} {xs : List PyData} (h1 : h.get? a = some o) (h2 : o.cls = .type "tuple") (h3 : o.data = .seq vs m) (l : vs.toList.length = xs.length) (k : ∀ (i : Nat) (u : Value) (d : PyData), vs.toList[i]? = some u → xs[i]? = some d → Shn P w h u d) : Part P w h (.ref a) (.tuple xs)
  | dct {a : Addr} {o : Obj} {es : Array DictEntry} {m : Nat} {kvs : List (PyData × PyData)} (h1 : h.get? a = some o) (h2 : o.cls = .type "dict") (h3 : o.data = .dict es m) (sy : (a == sysModules) = false) (l1 : (es.toList.map (·.key)).length = kvs.length) (l2 : (es.toList.map (·.val)).length = kvs.length)
      (k1 : ∀ (i : Nat) (u : Value) (d : PyData), (es.toList.map (·.key))[i]? = some u → (kvs.map (·.1))[i]? = some d → Shn P w h u d) (k2 : ∀ (i : Nat) (u : Value) (d : PyData), (es.toList.map (·.val))[i]? = some u → (kvs.map (·.2))[i]? = some d → Shn P w h u d) : Part P w h (.ref a) (.dict kvs)
end
end Kx

set_option maxHeartbeats 4000000
namespace Kx
open PySem PySem.Spec PyProof.Rows L2
theorem Part.shn {P : Program} {w : World} {h : Heap} {u : Value} {d : PyData} {as : List Addr} (p : Part P w h u d) (r : Reads h u d as) (hs : d.showable = true) (hz : d.shown.length ≤ sizeLine) : Shn P w h u d := by
  cases p with
  | non => exact ⟨[], (fun _ h => nomatch h), by simp only [PyData.shown]; exact .of_is ReprIs.none _ _ _⟩
  | bl b => exact ⟨[], (fun _ h => nomatch h), by simp only [PyData.shown]; exact .of_is (ReprIs.bool b) _ _ _⟩
  | int i t => exact ⟨[], (fun _ h => nomatch h), by simp only [PyData.shown]; exact .of_is (ReprIs.int t (by simpa [PyData.showable] using hs)) _ _ _⟩
  | str x t => exact ⟨[], (fun _ h => nomatch h), by simp only [PyData.shown]; exact .of_is (ReprIs.str x t (by simpa only [PyData.shown] using hz)) _ _ _⟩
  | @lst a o vs m xs h1 h2 h3 l k =>
    obtain ⟨bs, hb, hk⟩ := allK l k
    have hna : a ∉ bs := not_mem_of_deeper r (by simp only [PyData.depth]; omega) hb
    refine ⟨a :: bs, ReadAtMost.cons r (by simp only [PyData.depth]; omega) hb, ?_⟩
    simp only [PyData.depth, PyData.shown]
    obtain ⟨vl⟩ := vs
    cases vl with
    | nil =>
      cases xs with
      | nil => simp only [PyData.shownAll, listText_nil]; exact ReprK.listEmpty h1 h2 h3
      | cons x xs => cases l
    | cons x vl => exact ReprK.list h1 h2 h3 hna (by simpa using hk.length_eq) (fun i y e => hk.item i y (by simpa using e))
  | @tup a o vs m xs h1 h2 h3 l k =>
    obtain ⟨bs, hb, hk⟩ := allK l k
    have hna : a ∉ bs := not_mem_of_deeper r (by simp only [PyData.depth]; omega) hb
    refine ⟨a :: bs, ReadAtMost.cons r (by simp only [PyData.depth]; omega) hb, ?_⟩
    simp only [PyData.depth, PyData.shown]
    exact ReprK.tuple h1 h2 h3 hna hk
  | @dct a o es m kvs h1 h2 h3 sy l1 l2 k1 k2 =>
    obtain ⟨b1, hb1, q1⟩ := allK (ds := kvs.map (·.1)) (by simpa using l1) k1
    obtain ⟨b2, hb2, q2⟩ := allK (ds := kvs.map (·.2)) (by simpa using l2) k2
    have hb : ReadAtMost h (PyData.depthKv kvs) (b1 ++ b2) := (hb1.mono (PyData.depthAll_keys_le kvs)).append (hb2.mono (PyData.depthAll_vals_le kvs))
    have hna : a ∉ b1 ++ b2 := not_mem_of_deeper r (by simp only [PyData.depth]; omega) hb
    refine ⟨a :: (b1 ++ b2), ReadAtMost.cons r (by simp only [PyData.depth]; omega) hb, ?_⟩
    simp only [PyData.depth, PyData.shown, PyData.shownKv_eq]
    exact ReprK.dict h1 h2 h3 sy hna (ReprEntriesK.of_two es.toList _ _ (q1.more_le (fun b hb => List.mem_append_left _ hb) (PyData.depthAll_keys_le kvs)) (q2.more_le (fun b hb => List.mem_append_right _ hb) (PyData.depthAll_vals_le kvs)))
section
variable {X : Cx} {pins : List (Addr × Obj)} {σ : L2.St} {H : Hp} {s : Shared}
theorem Dd.part (I : Inv X pins σ H s) {n : Nat} {x : V} {d : PyData} (h : Dd H n x d) : n ≤ 3 → ∀ u, RelV x u → Part X.prog X.w s.heap u d := by
  induction h with
  | non => intro _ u r; cases r; exact .non
  | bl b => intro _ u r; cases r; exact .bl b
  | int i h => intro _ u r; obtain ⟨t, rfl⟩ := r; exact .int i t
  | str z h => intro _ u r; obtain ⟨t, rfl⟩ := r; exact .str z t
  | @lst n a xs ds h l e f ih =>
    intro hn u r
    cases r
    obtain ⟨its, rv, ⟨o, m, ho, hc, _, hd⟩, _⟩ := I.list (SqL.of h)
    have hl := rv.length
    refine .lst ho hc hd (by simp; omega) fun i u d h1 h2 => ?_
    have h1 : its[i]? = some u := by simpa using h1
    have lt : i < xs.length := by have := (List.getElem?_eq_some_iff.mp h1).1; omega
    obtain ⟨u', hu, ru⟩ := rv.get (List.getElem?_eq_getElem lt)
    rw [h1] at hu
    cases hu
    have g := f i _ d (List.getElem?_eq_getElem lt) h2
    obtain ⟨as, rd⟩ := g.reads I u ru
    exact (ih i _ d (List.getElem?_eq_getElem lt) h2 (by omega) u ru).shn rd g.sm.2.1 (g.sm.fits (by omega))
  | @tup n a xs ds h l e f ih =>
    intro hn u r
    cases r
    obtain ⟨its, rv, ⟨o, ho, hc, m, hd⟩, _⟩ := I.tuple (SqT.of h)
    have hl := rv.length
    refine .tup ho hc hd (by simp; omega) fun i u d h1 h2 => ?_
    have h1 : its[i]? = some u := by simpa using h1
    have lt : i < xs.length := by have := (List.getElem?_eq_some_iff.mp h1).1; omega
    obtain ⟨u', hu, ru⟩ := rv.get (List.getElem?_eq_getElem lt)
    rw [h1] at hu
    cases hu
    have g := f i _ d (List.getElem?_eq_getElem lt) h2
    obtain ⟨as, rd⟩ := g.reads I u ru
    exact (ih i _ d (List.getElem?_eq_getElem lt) h2 (by omega) u ru).shn rd g.sm.2.1 (g.sm.fits (by omega))
  | @dct n a z v dv h hz hv ih =>
    intro hn u r
    cases r
    obtain ⟨_, lo, vs, rk, hd⟩ := dk_of I.hok h
    cases rk with
    | cons hp ht =>
      rename_i kv vs
      cases ht
      obtain ⟨k, w⟩ := kv
      obtain ⟨e1, e2⟩ := hp
      have e1 : (Sum.inr z : Key) = k := e1
      subst e1
      obtain ⟨o, es, ep, ho, hx, hdat, _, hps, _⟩ := hd
      obtain ⟨as, rd⟩ := hv.reads I w e2
      have sv : Shn X.prog X.w s.heap w dv := (ih (by omega) w e2).shn rd hv.sm.2.1 (hv.sm.fits (by omega))
      obtain ⟨el⟩ := es
      have hps : Pairs (mixKind X.prog X.w) el [(Sum.inr z, w)] := hps
      cases hps with
      | @cons e _ _ _ hk hvv hr =>
        cases hr
        have key : keyIs (Sum.inr z) e.key = true := hk
        have sk : Shn X.prog X.w s.heap e.key (.str z) := by
          rcases keyIs_shape key with ⟨i, t, q1, q2⟩ | ⟨y, t, q1, q2⟩
          · cases q1
          · cases q1
            rw [q2]
            exact (Part.str z t).shn (.str z t) rfl ((str_sm (n := 0) hz).fits (by decide))
        have hv1 : e.val = w := hvv
        refine .dct ho hx.1 hdat lo rfl rfl (fun i u d g1 g2 => ?_) (fun i u d g1 g2 => ?_)
        · cases i with
          | zero => cases g1; cases g2; exact sk
          | succ i => cases g2
        · cases i with
          | zero => cases g1; cases g2; show Shn X.prog X.w s.heap e.val dv; rw [hv1]; exact sv
          | succ i => cases g2
end
section
variable {X : Cx}
def rReprD : List V → Hp → VK → Prop := fun xs H Q => ∃ (x : V) (n : Nat) (d : PyData), xs = [x] ∧ Dd H n x d ∧ n ≤ 3 ∧ Q (.str d.shown) H
theorem call_reprD (hg : X.A.guards = some []) (hu : X.A.units + 64 < cLine) : CallR X (.builtin "repr") rReprD := by
  intro pins s σ H xs us Q I r h
  obtain ⟨x, n, d, rfl, hd, hn, q⟩ := h
  obtain ⟨u, rfl, rx⟩ := vals1 r
  have sm := hd.sm
  have fit := sm.fits hn
  obtain ⟨as, rd⟩ := hd.reads I u rx
  have pt := hd.part I hn u rx
  have dp := sm.1
  have fin : ∀ {v : Str} (t : Tok) (h' : Heap) (tk : Nat), v = d.shown → (∀ b o, s.heap.get? b = some o → h'.get? b = some o) → EP X pins σ Q (.str v t) { s with heap := h', toks := tk } := fun t h' tk e kp => by
    subst e
    exact ⟨.str d.shown, H, I.kept kp, ⟨t, rfl⟩, q⟩
  cases pt with
  | non => exact PySem.P.repr_of_none (fin _ _ _ rfl fun _ _ e => e)
  | bl b => exact PySem.P.repr_of_bool (fin _ _ _ rfl fun _ _ e => e)
  | int i t => exact PySem.P.repr_of_int (of_decide_eq_true sm.2.1) (fin _ _ _ rfl fun _ _ e => e)
  | str z t => exact PySem.P.repr_of_str (fin _ _ _ rfl fun _ _ e => e) fit
  | @lst a o vs m xs h1 h2 h3 l k =>
    obtain ⟨bs, hb, hk⟩ := allK l k
    have hna : a ∉ bs := not_mem_of_deeper rd (by simp only [PyData.depth]; omega) hb
    have dp : PyData.depthAll xs + 1 ≤ n := dp
    refine call_repr_slot (by omega) ⟨o, h1, h2⟩ F.slot_list_repr.toG ?_
    obtain ⟨vl⟩ := vs
    cases vl with
    | nil =>
      cases xs with
      | nil => exact call_list_repr_empty ⟨o, h1, h2⟩ h1 h3 ⟨_, _, rfl, fin _ _ _ (by simp only [PyData.shown, PyData.shownAll, listText_nil]) fun _ _ e => e⟩
      | cons x xs => cases l
    | cons x vl => exact call_list_reprK h1 h2 h3 hna (by simpa using hk.length_eq) (fun i y e => hk.item i y (by simpa using e)) hg (fun b _ => Clear.nil b) (by show X.A.units + 1 + _ < cLine; omega) (fun _ _ e => e) (fun h' u tk kp => ⟨_, _, rfl, fin _ _ _ (by simp only [PyData.shown]) kp⟩) (by simpa only [PyData.shown] using fit)
  | @tup a o vs m xs h1 h2 h3 l k =>
    obtain ⟨bs, hb, hk⟩ := allK l k
    have hna : a ∉ bs := not_mem_of_deeper rd (by simp only [PyData.depth]; omega) hb
    have dp : PyData.depthAll xs + 1 ≤ n := dp
    exact call_repr_slot (by omega) ⟨o, h1, h2⟩ F.slot_tuple_repr (call_tuple_reprK h1 h2 h3 hna hk hg (fun b _ => Clear.nil b) (by show X.A.units + 1 + _ < cLine; omega) (fun _ _ e => e) (fun h' u tk kp => ⟨_, _, rfl, fin _ _ _ (by simp only [PyData.shown]) kp⟩) (by simpa only [PyData.shown] using fit))
  | @dct a o es m kvs h1 h2 h3 sy l1 l2 k1 k2 =>
    obtain ⟨b1, hb1, q1⟩ := allK (ds := kvs.map (·.1)) (by simpa using l1) k1
    obtain ⟨b2, hb2, q2⟩ := allK (ds := kvs.map (·.2)) (by simpa using l2) k2
    have hb : ReadAtMost s.heap (PyData.depthKv kvs) (b1 ++ b2) := (hb1.mono (PyData.depthAll_keys_le kvs)).append (hb2.mono (PyData.depthAll_vals_le kvs))
    have hna : a ∉ b1 ++ b2 := not_mem_of_deeper rd (by simp only [PyData.depth]; omega) hb
    have dp : PyData.depthKv kvs + 1 ≤ n := dp
    exact call_repr_slot (by omega) ⟨o, h1, h2⟩ F.slot_dict_repr (call_dict_reprK h1 h2 h3 sy hna (ReprEntriesK.of_two es.toList _ _ (q1.more_le (fun b hb => List.mem_append_left _ hb) (PyData.depthAll_keys_le kvs)) (q2.more_le (fun b hb => List.mem_append_right _ hb) (PyData.depthAll_vals_le kvs))) hg (fun b _ => Clear.nil b) (by show X.A.units + 1 + _ < cLine; omega) (fun _ _ e => e) (fun h' u tk kp => ⟨_, _, rfl, fin _ _ _ (by simp only [PyData.shown, PyData.shownKv_eq]) kp⟩) (by rw [← PyData.shownKv_eq]; simpa only [PyData.shown] using fit))
end
end Kx

set_option maxHeartbeats 4000000
namespace Kx
open PySem PySem.Spec PyProof.Rows L2
/-! a dict of which None is a key -/
def NmO (P : Program) (w : World) (a : Addr) (kvs : List (Option Key × V)) : HO := .ext fun h => kvs.length ≤ sizeLine ∧ (a == sysModules) = false ∧ ∃ vs : List (Option Key × Value), KV kvs vs ∧ h.DictOf (noneKind P w) a vs
theorem nm_ok {P : Program} {w : World} {H : Hp} {h : Heap} {a : Addr} {kvs : List (Option Key × V)} {vs : List (Option Key × Value)} (l : kvs.length ≤ sizeLine) (hs : (a == sysModules) = false) (r : KV kvs vs) (d : h.DictOf (noneKind P w) a vs) : ObjOk P w H h a (NmO P w a kvs) := by
  refine ⟨⟨l, hs, vs, r, d⟩, ?_, fun h1 h2 ⟨l, hs, vs, r, o, es, ep, ho, q⟩ k => ⟨l, hs, vs, r, o, es, ep, k o ho, q⟩⟩
  obtain ⟨o, _, _, ho, _⟩ := d
  exact ⟨o, ho⟩
theorem nm_of {P : Program} {w : World} {H : Hp} {h : Heap} {a : Addr} {kvs : List (Option Key × V)} (ok : HOk P w H h) (e : H a = some (NmO P w a kvs)) : kvs.length ≤ sizeLine ∧ (a == sysModules) = false ∧ ∃ vs : List (Option Key × Value), KV kvs vs ∧ h.DictOf (noneKind P w) a vs := (ok a _ e).1
abbrev sk {α : Type} (kvs : List (Key × α)) : List (Option Key × α) := kvs.map fun p => (some p.1, p.2)
theorem sk_pairs {P : Program} {w : World} : ∀ {es : List DictEntry} {vs : List (Key × Value)}, Pairs (mixKind P w) es vs → Pairs (noneKind P w) es (sk vs)
  | _, _, .nil => .nil
  | _, _, .cons h1 h2 t => .cons h1 h2 (sk_pairs t)
theorem sk_dict {P : Program} {w : World} {h : Heap} {a : Addr} {vs : List (Key × Value)} (d : h.DictOf (mixKind P w) a vs) : h.DictOf (noneKind P w) a (sk vs) := by
  obtain ⟨o, es, ep, ho, hx, hd, hk, hp, hn⟩ := d
  refine ⟨o, es, ep, ho, hx, hd, fun e he => ?_, sk_pairs hp, ?_⟩
  · obtain ⟨k, h1, h2⟩ := hk e he
    exact ⟨some k, h1, h2⟩
  · have e : (sk vs).map (·.1) = (vs.map (·.1)).map some := by simp
    rw [e, List.Nodup, List.pairwise_map]
    exact hn.imp fun h z => h (Option.some.inj z)
theorem sk_kv {kvs : List (Key × V)} {vs : List (Key × Value)} (r : KV kvs vs) : KV (sk kvs) (sk vs) := by
  unfold KV at *
  induction r with
  | nil => exact .nil
  | cons h t ih => exact .cons ⟨congrArg some h.1, h.2⟩ ih
theorem sk_none {α : Type} (kvs : List (Key × α)) : ((sk kvs).any fun kv => decide (kv.1 = none)) = false := by
  simp [sk]
theorem kv_app {κ : Type} {a b : List (κ × V)} {c d : List (κ × Value)} (h : KV a c) (g : KV b d) : KV (a ++ b) (c ++ d) := by
  unfold KV at *
  induction h with
  | nil => exact g
  | cons h t ih => exact .cons h ih
/-- a dict of these keys, None perhaps among them -/
def MapAt (P : Program) (w : World) (H : Hp) (a : Addr) (kvs : List (Option Key × V)) : Prop := (∃ l, H a = some (.dK l) ∧ kvs = sk l) ∨ H a = some (NmO P w a kvs)
theorem MapAt.keep {P : Program} {w : World} {H H' : Hp} {a : Addr} {kvs : List (Option Key × V)} (h : MapAt P w H a kvs) (s : Same H H') : MapAt P w H' a kvs := by
  rcases h with ⟨l, h, e⟩ | h
  · exact .inl ⟨l, s _ _ h, e⟩
  · exact .inr (s _ _ h)
theorem MapAt.some {P : Program} {w : World} {H : Hp} {a : Addr} {kvs : List (Option Key × V)} (h : MapAt P w H a kvs) : ∃ o, H a = some o := by
  rcases h with ⟨l, h, e⟩ | h
  · exact ⟨_, h⟩
  · exact ⟨_, h⟩
theorem map_of {P : Program} {w : World} {H : Hp} {h : Heap} {a : Addr} {kvs : List (Option Key × V)} (ok : HOk P w H h) (e : MapAt P w H a kvs) : kvs.length ≤ sizeLine ∧ (a == sysModules) = false ∧ ∃ vs : List (Option Key × Value), KV kvs vs ∧ h.DictOf (noneKind P w) a vs := by
  rcases e with ⟨l, e, rfl⟩ | e
  · obtain ⟨z, hd, vs, rel, dd⟩ := dk_of ok e
    exact ⟨by rw [List.length_map]; exact z, hd, sk vs, sk_kv rel, sk_dict dd⟩
  · exact nm_of ok e
section
variable {X : Cx} {pins : List (Addr × Obj)} {σ : L2.St} {H : Hp} {s : Shared} {a : Addr} {u r : Value} {v : V} {A : Around} {E : Value → Shared → Prop}
/-- d[None] = v, None not yet a key -/
theorem nm_set {kvs : List (Key × V)} {Q : Unit → Shared → Prop} (I : Inv X pins σ H s) (e : H a = some (.dK kvs)) (l : kvs.length < sizeLine) (rv : RelV v r) (h : ∀ s', Inv X pins σ (upd H a (NmO X.prog X.w a (sk kvs ++ [(none, v)]))) s' → Q () s') :
    wpAny (model X.prog X.w) A (setItem (.ref a) .none r) Q E s := by
  obtain ⟨z, hd, vs, rel, dd⟩ := dk_of I.hok e
  have hz : (sk vs).length ≤ sizeLine := by rw [List.length_map, ← rel.length]; exact z
  refine wpAny_setItem_pairs (knd := noneKind X.prog X.w) (k := none) (hsz := hz) rfl (sk_dict dd) fun h' dd' hs => h _ ?_
  have he : ∃ q, h'.get? a = some q := let ⟨q, _, _, hq, _⟩ := dd'; ⟨q, hq⟩
  have es : stored (sk vs) none r = sk vs ++ [(none, r)] := by
    unfold stored
    rw [if_neg (by rw [sk_none]; exact Bool.false_ne_true)]
  rw [es] at dd'
  exact d_write I (by rw [e]; exact True.intro) hs he (nm_ok (by simp; omega) hd (kv_app (sk_kv rel) (.cons ⟨rfl, rv⟩ .nil)) dd')
theorem valV_kv {κ : Type} [DecidableEq κ] {kvs : List (κ × V)} {vs : List (κ × Value)} (r : KV kvs vs) (k : κ) : RelO (valV kvs k) (valueAt vs k) := by
  unfold KV at r
  induction r with
  | nil => exact True.intro
  | @cons p q ps qs h t ih =>
    by_cases e : p.1 = k
    · have e2 : q.1 = k := h.1 ▸ e
      rw [valV_pos e]
      unfold valueAt
      rw [List.find?_cons_of_pos (by simpa using e2)]
      exact h.2
    · have e2 : ¬ q.1 = k := fun z => e (h.1.trans z)
      rw [valV_neg e]
      unfold valueAt
      rw [List.find?_cons_of_neg (by simpa using e2)]
      exact ih
theorem nm_get {kvs : List (Option Key × V)} {z : Str} {Q : Value → Shared → Prop} (I : Inv X pins σ H s) (e : MapAt X.prog X.w H a kvs) (l : valV kvs (some (Sum.inr z)) = some v) (ry : RelV (.str z) u) (h : ∀ w' s', Inv X pins σ H s' → RelV v w' → Q w' s') :
    wpAny (model X.prog X.w) A (getItem (.ref a) u) Q E s := by
  obtain ⟨_, hd, vs, rel, dd⟩ := map_of I.hok e
  obtain ⟨w', hw, rw'⟩ := RelO.some_of (v := v) (o := valueAt vs (some (Sum.inr z))) (by rw [← l]; exact valV_kv rel _)
  obtain ⟨t, rfl⟩ := (show ∃ t, u = Value.str z t from ry)
  exact wpAny_getItem_of (knd := noneKind X.prog X.w) (k := some (Sum.inr z)) (keyIs_str z t) dd.mapOf hw (h w' _ (I.tok _) rw')
theorem nm_notIn {kvs : List (Option Key × V)} {z : Str} {Q : Value → Shared → Prop} (I : Inv X pins σ H s) (e : MapAt X.prog X.w H a kvs) (ry : RelV (.str z) u) (h : ∀ s', Inv X pins σ H s' → Q (.bool (!(valV kvs (some (Sum.inr z))).isSome)) s') :
    wpAny (model X.prog X.w) A (compareOp .NotIn u (.ref a)) Q E s := by
  obtain ⟨_, hd, vs, rel, dd⟩ := map_of I.hok e
  obtain ⟨t, rfl⟩ := (show ∃ t, u = Value.str z t from ry)
  refine wpAny_notIn_of (knd := noneKind X.prog X.w) (k := some (Sum.inr z)) (keyIs_str z t) hd dd.mapOf ?_
  rw [← (valV_kv rel (some (Sum.inr z))).isSome_eq]
  exact h _ (I.tok _)
end
def tMGet (P : Program) (w : World) (td ty : TE) : TE := fun σ H Q => td σ H fun x H1 => ty σ H1 fun y H2 => ∃ a kvs z v, x = .ref a ∧ y = .str z ∧ MapAt P w H2 a kvs ∧ valV kvs (some (Sum.inr z)) = some v ∧ Q v H2
def tMNotIn (P : Program) (w : World) (ty td : TE) : TE := fun σ H Q => ty σ H fun y H1 => td σ H1 fun x H2 => ∃ a kvs z, x = .ref a ∧ y = .str z ∧ MapAt P w H2 a kvs ∧ Q (.bl (!(valV kvs (some (Sum.inr z))).isSome)) H2
/-- d[y] = v; y may be None -/
def sMPut (P : Program) (w : World) (td ty tv : TE) : TS := fun D σ H => tv σ H fun v H1 => td σ H1 fun x H2 => ty σ H2 fun y H3 => ∃ a, x = .ref a ∧
  ((∃ H4, DPut H3 a y v H4 ∧ D.nx σ H4) ∨ ∃ kvs, y = .non ∧ H3 a = some (.dK kvs) ∧ kvs.length < sizeLine ∧ D.nx σ (upd H3 a (NmO P w a (sk kvs ++ [(none, v)]))))
/-- isinstance(x, c): x may be such a dict -/
def rIsiM (P : Program) (w : World) (K : PySem.W.Frag) : List V → Hp → VK → Prop := fun xs H Q => rIsi K xs H Q ∨ ∃ a kvs, xs = [.ref a, .ty "dict"] ∧ MapAt P w H a kvs ∧ Q (.bl true) H
theorem kit_dict {n : String} (h : n ∈ ["NoneType", "bool", "int", "str", "list", "tuple", "dict"]) : kitB n "dict" = some (n == "dict") := by
  simp only [List.mem_cons, List.not_mem_nil, or_false] at h
  rcases h with h | h | h | h | h | h | h <;> (subst h; decide +kernel)
section
variable {X : Cx} {o i value : Expr} {td ty tv : TE} {pos pos' : Pos} {P : Program} {w : World}
theorem pe_mget (hP : X.prog = P) (hw : X.w = w) (ho : PE X o td) (hi : PE X i ty) (hs : NoSl i) : PE X (.Subscript o i pos) (tMGet P w td ty) := by
  subst hP hw
  refine ⟨fun pins s σ H Q I h => ?_⟩
  refine subD_of PySem.F.slot_dict_getitem.lookup hs (thn (ho.run pins s σ H _ I h) fun u s1 ⟨x, H1, I1, rx, q1⟩ => thn (hi.run pins s1 σ H1 _ I1 q1) fun iv s2 ⟨y, H2, I2, ry, a, kvs, z, v, ex, ey, e, l, q2⟩ => ?_)
  subst ex ey
  obtain rfl : u = Value.ref a := rx
  obtain ⟨_, _, _, _, dd⟩ := map_of I2.hok e
  exact ⟨dd.typeIs, nm_get I2 e l ry fun w' s3 I3 rw' => ⟨v, H2, I3, rw', q2⟩⟩
theorem pc_mnotin (hP : X.prog = P) (hw : X.w = w) (hi : PE X i ty) (ho : PE X o td) : PC X .NotIn i o (tMNotIn P w ty td) := by
  subst hP hw
  refine ⟨fun pins s σ H Q I h => ?_⟩
  refine thn (hi.run pins s σ H _ I h) fun iv s1 ⟨y, H1, I1, ry, q1⟩ => thn (ho.run pins s1 σ H1 _ I1 q1) fun u s2 ⟨x, H2, I2, rx, a, kvs, z, ex, ey, e, q2⟩ => ?_
  subst ex ey
  obtain rfl : u = Value.ref a := rx
  exact nm_notIn I2 e ry fun s3 I3 => ⟨.bl _, H2, I3, rfl, q2⟩
theorem ps_mput (hP : X.prog = P) (hw : X.w = w) (hu : X.A.units + 1 < cLine) (ho : PE X o td) (hi : PE X i ty) (hv : PE X value tv) (hs : swapsWith value (some (.Subscript o i pos')) pos.line X.env = pure false) :
    PS X (.Assign [.Subscript o i pos'] value pos) (sMPut P w td ty tv) := by
  subst hP hw
  refine ⟨fun pins s σ H D I h => ?_⟩
  refine wpAny_Assign_Subscript (thn (hv.run pins s σ H _ I h) fun r s1 ⟨v, H1, I1, rv, q1⟩ => thn (ho.run pins s1 σ H1 _ I1 q1) fun u s2 ⟨x, H2, I2, rx, q2⟩ => thn (hi.run pins s2 σ H2 _ I2 q2) fun iv s3 ⟨y, H3, I3, ry, a, ex, q3⟩ => ?_) hs
  subst ex
  obtain rfl : u = Value.ref a := rx
  rcases q3 with ⟨H4, g, q3⟩ | ⟨kvs, ey, e, l, q3⟩
  · exact d_setItem hu I3 g ry rv fun s4 I4 => ⟨σ, H4, I4, q3⟩
  · subst ey
    obtain rfl : iv = Value.none := ry
    exact nm_set I3 e l rv fun s4 I4 => ⟨σ, _, I4, q3⟩
theorem call_isiM (hP : X.prog = P) (hw : X.w = w) : CallR X (.builtin "isinstance") (rIsiM P w X.K) := by
  subst hP hw
  intro pins s σ H xs us Q I r h
  rcases h with h | ⟨a, kvs, rfl, e, q⟩
  · exact call_isi pins s σ H xs us Q I r h
  · obtain ⟨u1, u2, rfl, r1, r2⟩ := vals2 r
    obtain rfl : u1 = Value.ref a := r1
    obtain rfl : u2 = Value.type "dict" := r2
    obtain ⟨_, _, _, _, o, _, _, h1, h2, _⟩ := map_of I.hok e
    exact PySem.W.kia_one PySem.W.kitx_dict I.kIn ⟨o, h1, h2.1⟩ (kit_ty (kit_dict (n := "dict") (by decide))) (fun z => nomatch z) fun tk => ⟨.bl true, H, I.tok tk, rfl, q⟩
end
theorem valV_sk {l : List (Key × V)} {k : Key} : valV (sk l) (some k) = valV l k := by
  induction l with
  | nil => rfl
  | cons p l ih =>
    by_cases e : p.1 = k
    · rw [valV_pos e]
      exact valV_pos (congrArg some e)
    · rw [valV_neg e]
      exact (valV_neg (fun z => e (Option.some.inj z))).trans ih
theorem valV_nm {l : List (Key × V)} {v : V} {k : Key} : valV (sk l ++ [(none, v)]) (some k) = valV l k := by
  induction l with
  | nil => exact valV_neg (fun z => nomatch z)
  | cons p l ih =>
    by_cases e : p.1 = k
    · rw [valV_pos e]
      exact valV_pos (congrArg some e)
    · rw [valV_neg e]
      exact (valV_neg (fun z => e (Option.some.inj z))).trans ih
end Kx

set_option maxHeartbeats 4000000
namespace Kx
open PySem PySem.Spec PyProof.Rows L2
/-! repr of such a dict -/
def kVo : Option Key → V
  | none => .non
  | some k => kV k
def encO : Option Key → PyData
  | none => .none
  | some k => encK k
def FineKo : Option Key → Prop
  | none => True
  | some (.inl i) => i.natAbs < 10 ^ 9
  | some (.inr z) => Fine z
theorem key_dd {H : Hp} {n : Nat} : ∀ {k : Option Key}, FineKo k → Dd H n (kVo k) (encO k)
  | none, _ => .non
  | some (.inl i), h => .int i h
  | some (.inr z), h => .str z h
theorem key_rel {P : Program} {w : World} {k : Option Key} {u : Value} (h : (noneKind P w).is k u = true) : RelV (kVo k) u := by
  cases k with
  | none => exact nk_none h
  | some k =>
    have h : keyIs k u = true := h
    rcases keyIs_shape h with ⟨i, t, rfl, rfl⟩ | ⟨x, t, rfl, rfl⟩
    · exact ⟨t, rfl⟩
    · exact ⟨t, rfl⟩
abbrev DP (H : Hp) : List (Option Key × V) → List (PyData × PyData) → Prop := Paired fun p q => q.1 = encO p.1 ∧ FineKo p.1 ∧ Dd H 1 p.2 q.2
theorem DP.keep {H H' : Hp} {kvs : List (Option Key × V)} {ds : List (PyData × PyData)} (h : DP H kvs ds) (s : Same H H') : DP H' kvs ds := by
  induction h with
  | nil => exact .nil
  | cons h t ih => exact .cons ⟨h.1, h.2.1, h.2.2.keep s⟩ ih
theorem ents {P : Program} {w : World} : ∀ {es : List DictEntry} {vs : List (Option Key × Value)} {kvs : List (Option Key × V)}, Pairs (noneKind P w) es vs → KV kvs vs → Paired (fun (p : Option Key × V) (e : DictEntry) => RelV (kVo p.1) e.key ∧ RelV p.2 e.val) kvs es
  | _, _, _, .nil, r => by
    unfold KV at r
    cases r
    exact .nil
  | _, _, _, .cons h1 h2 t, r => by
    unfold KV at r
    cases r with
    | cons q r =>
      refine .cons ⟨?_, ?_⟩ (ents t r)
      · rw [q.1]; exact key_rel h1
      · rw [h2]; exact q.2
theorem kv_sm {n : Nat} : ∀ {ds : List (PyData × PyData)}, (∀ q ∈ ds, Sm n q.1 ∧ Sm n q.2) → PyData.depthKv ds ≤ n ∧ PyData.showableKv ds = true ∧ PyData.leavesShortKv 10 ds = true ∧ PyData.bulkKv ds ≤ ds.length * (2 * BB n + 2)
  | [], _ => ⟨Nat.zero_le _, rfl, rfl, by simp [PyData.bulkKv]⟩
  | (k, d) :: ds, h => by
    have hh : Sm n k ∧ Sm n d := h (k, d) (.head _)
    obtain ⟨⟨a1, a2, a3, a4⟩, h1, h2, h3, h4⟩ := hh
    obtain ⟨g1, g2, g3, g4⟩ := kv_sm fun e m => h e (.tail _ m)
    refine ⟨?_, ?_, ?_, ?_⟩
    · show max (max (PyData.depth k) (PyData.depth d)) (PyData.depthKv ds) ≤ n
      omega
    · show (PyData.showable k && PyData.showable d && PyData.showableKv ds) = true
      rw [a2, h2, g2]
      rfl
    · show (PyData.leavesShort 10 k && PyData.leavesShort 10 d && PyData.leavesShortKv 10 ds) = true
      rw [a3, h3, g3]
      rfl
    · show PyData.bulk k + PyData.bulk d + 2 + PyData.bulkKv ds ≤ (ds.length + 1) * (2 * BB n + 2)
      rw [Nat.add_mul, Nat.one_mul]
      omega
theorem DP.at_ {H : Hp} {kvs : List (Option Key × V)} {ds : List (PyData × PyData)} (h : DP H kvs ds) {i : Nat} {q : PyData × PyData} (e : ds[i]? = some q) : ∃ p, kvs[i]? = some p ∧ q.1 = encO p.1 ∧ FineKo p.1 ∧ Dd H 1 p.2 q.2 := by
  induction h generalizing i with
  | nil => cases e
  | cons h t ih =>
    cases i with
    | zero => cases e; exact ⟨_, rfl, h⟩
    | succ i => exact ih e
theorem pr_at {α β : Type} {F : α → β → Prop} {l : List α} {m : List β} (h : Paired F l m) {i : Nat} {a : α} (e : l[i]? = some a) : ∃ b, m[i]? = some b ∧ F a b := by
  induction h generalizing i with
  | nil => cases e
  | cons h t ih =>
    cases i with
    | zero => cases e; exact ⟨_, rfl, h⟩
    | succ i => exact ih e
theorem DP.sm {H : Hp} {kvs : List (Option Key × V)} {ds : List (PyData × PyData)} (h : DP H kvs ds) (l : kvs.length ≤ 12) : PyData.depthKv ds ≤ 1 ∧ PyData.showableKv ds = true ∧ (PyData.shown (.dict ds)).length ≤ sizeLine := by
  obtain ⟨g1, g2, g3, g4⟩ := kv_sm (n := 1) (ds := ds) fun q m => by
    obtain ⟨i, hi⟩ := List.mem_iff_getElem?.mp m
    obtain ⟨p, _, e1, e2, e3⟩ := h.at_ hi
    exact ⟨by rw [e1]; exact (key_dd (H := H) e2).sm, e3.sm⟩
  have ld := Paired.length h
  refine ⟨g1, g2, ?_⟩
  have q := PyData.shown_le_bulk 10 (by decide) (.dict ds) g3
  have b : BB 1 ≤ 2000 := by decide
  have m : ds.length * (2 * BB 1 + 2) ≤ 12 * (2 * BB 1 + 2) := Nat.mul_le_mul_right _ (by omega)
  have e : PyData.bulk (.dict ds) = PyData.bulkKv ds := rfl
  rw [sizeLine_eq]
  omega
def rReprM (P : Program) (w : World) : List V → Hp → VK → Prop := fun xs H Q => ∃ (a : Addr) (kvs : List (Option Key × V)) (ds : List (PyData × PyData)), xs = [.ref a] ∧ MapAt P w H a kvs ∧ DP H kvs ds ∧ kvs.length ≤ 12 ∧ Q (.str (PyData.shown (.dict ds))) H
section
variable {X : Cx} {P : Program} {w : World}
theorem call_reprM (hP : X.prog = P) (hw : X.w = w) (hg : X.A.guards = some []) (hu : X.A.units + 64 < cLine) : CallR X (.builtin "repr") (rReprM P w) := by
  subst hP hw
  intro pins s σ H xs us Q I r h
  obtain ⟨a, kvs, ds, rfl, ha, hd, hl, q⟩ := h
  obtain ⟨u, rfl, rx⟩ := vals1 r
  obtain rfl : u = Value.ref a := rx
  obtain ⟨g1, g2, fit⟩ := hd.sm hl
  obtain ⟨_, sy, vs, rel, o, es, m, h1, h2, h3, _, hp, _⟩ := map_of I.hok ha
  have pr := ents hp rel
  have ld := Paired.length hd
  have le := Paired.length pr
  have keyAt : ∀ (i : Nat) (u : Value) (d : PyData), (es.toList.map (·.key))[i]? = some u → (ds.map (·.1))[i]? = some d → ∃ x, Dd H 1 x d ∧ RelV x u := fun i u d e1 e2 => by
    rw [List.getElem?_map] at e1 e2
    obtain ⟨e, he, rfl⟩ := Option.map_eq_some_iff.mp e1
    obtain ⟨qd, hq, rfl⟩ := Option.map_eq_some_iff.mp e2
    obtain ⟨p, hp', a1, a2, a3⟩ := hd.at_ hq
    obtain ⟨e', he', b1, b2⟩ := pr_at pr hp'
    rw [he] at he'
    cases he'
    exact ⟨_, by rw [a1]; exact key_dd a2, b1⟩
  have valAt : ∀ (i : Nat) (u : Value) (d : PyData), (es.toList.map (·.val))[i]? = some u → (ds.map (·.2))[i]? = some d → ∃ x, Dd H 1 x d ∧ RelV x u := fun i u d e1 e2 => by
    rw [List.getElem?_map] at e1 e2
    obtain ⟨e, he, rfl⟩ := Option.map_eq_some_iff.mp e1
    obtain ⟨qd, hq, rfl⟩ := Option.map_eq_some_iff.mp e2
    obtain ⟨p, hp', a1, a2, a3⟩ := hd.at_ hq
    obtain ⟨e', he', b1, b2⟩ := pr_at pr hp'
    rw [he] at he'
    cases he'
    exact ⟨_, a3, b2⟩
  have shn : ∀ {x : V} {u : Value} {d : PyData}, Dd H 1 x d → RelV x u → Shn X.prog X.w s.heap u d := fun {x u d} g r => by
    obtain ⟨as, rd⟩ := g.reads I u r
    exact (g.part I (by decide) u r).shn rd g.sm.2.1 (g.sm.fits (by decide))
  have lk : (es.toList.map (·.key)).length = ds.length := by rw [List.length_map]; omega
  have lv : (es.toList.map (·.val)).length = ds.length := by rw [List.length_map]; omega
  obtain ⟨as1, rd1⟩ := readsAll_at (h := s.heap) (us := es.toList.map (·.key)) (ds := ds.map (·.1)) (by rw [List.length_map (f := fun q : PyData × PyData => q.1)]; exact lk) fun i u d e1 e2 => by
    obtain ⟨x, g, r⟩ := keyAt i u d e1 e2
    exact g.reads I u r
  obtain ⟨as2, rd2⟩ := readsAll_at (h := s.heap) (us := es.toList.map (·.val)) (ds := ds.map (·.2)) (by rw [List.length_map (f := fun q : PyData × PyData => q.2)]; exact lv) fun i u d e1 e2 => by
    obtain ⟨x, g, r⟩ := valAt i u d e1 e2
    exact g.reads I u r
  have rd : Reads s.heap (.ref a) (.dict ds) (a :: as1 ++ as2) := Reads.dict h1 h2.1 h3 rd1 rd2
  obtain ⟨b1, hb1, q1⟩ := allK (P := X.prog) (w := X.w) (h := s.heap) (us := es.toList.map (·.key)) (ds := ds.map (·.1)) (by rw [List.length_map (f := fun q : PyData × PyData => q.1)]; exact lk) fun i u d e1 e2 => by
    obtain ⟨x, g, r⟩ := keyAt i u d e1 e2
    exact shn g r
  obtain ⟨b2, hb2, q2⟩ := allK (P := X.prog) (w := X.w) (h := s.heap) (us := es.toList.map (·.val)) (ds := ds.map (·.2)) (by rw [List.length_map (f := fun q : PyData × PyData => q.2)]; exact lv) fun i u d e1 e2 => by
    obtain ⟨x, g, r⟩ := valAt i u d e1 e2
    exact shn g r
  have hb : ReadAtMost s.heap (PyData.depthKv ds) (b1 ++ b2) := (hb1.mono (PyData.depthAll_keys_le ds)).append (hb2.mono (PyData.depthAll_vals_le ds))
  have hna : a ∉ b1 ++ b2 := not_mem_of_deeper rd (by simp only [PyData.depth]; omega) hb
  have fin : ∀ {v : Str} (t : Tok) (h' : Heap) (tk : Nat), v = PyData.shown (.dict ds) → (∀ b o, s.heap.get? b = some o → h'.get? b = some o) → EP X pins σ Q (.str v t) { s with heap := h', toks := tk } := fun t h' tk e kp => by
    subst e
    exact ⟨.str _, H, I.kept kp, ⟨t, rfl⟩, q⟩
  exact call_repr_slot (by omega) ⟨o, h1, h2.1⟩ F.slot_dict_repr (call_dict_reprK h1 h2.1 h3 sy hna (ReprEntriesK.of_two es.toList _ _ (q1.more_le (fun b hb => List.mem_append_left _ hb) (PyData.depthAll_keys_le ds)) (q2.more_le (fun b hb => List.mem_append_right _ hb) (PyData.depthAll_vals_le ds))) hg (fun b _ => Clear.nil b) (by show X.A.units + 1 + _ < cLine; omega) (fun _ _ e => e) (fun h' u tk kp => ⟨_, _, rfl, fin _ _ _ (by simp only [PyData.shown, PyData.shownKv_eq]) kp⟩) (by rw [← PyData.shownKv_eq]; simpa only [PyData.shown] using fit))
end
end Kx

set_option maxHeartbeats 4000000
namespace Kx
open PySem L2
/-! Kinds(rows): the rows read one by one -/
def nameOf : Option (V × V) → Str
  | some (.str z, _) => z
  | _ => "?"
def arOf : Option (V × V) → V
  | some (_, a) => a
  | _ => .non
def prOf (r : Option (V × V)) : Str × V := (nameOf r, arOf r)
/-- where and why the first row is wrong -/
def scanK : List Str → Nat → List (Option (V × V)) → Option (Nat × Str)
  | _, _, [] => none
  | names, i, r :: rs => match rowWord names r with
    | some w => some (i, w)
    | none => scanK (names ++ [nameOf r]) (i + 1) rs
def rowsDue : Option (List (Option (V × V))) → Option (Nat × Str)
  | none => some (0, "rows")
  | some rs => if 1 ≤ rs.length ∧ rs.length ≤ 6 then scanK [] 0 rs else some (0, "rows")
/-- the things xs are the rows rs -/
def AllR (H : Hp) (xs : List V) (rs : List (Option (V × V))) : Prop := xs.length = rs.length ∧ ∀ (i : Nat) (y : V) (r : Option (V × V)), xs[i]? = some y → rs[i]? = some r → RowIs H y r
theorem AllR.keep {H H' : Hp} {xs : List V} {rs : List (Option (V × V))} (h : AllR H xs rs) (s : Same H H') : AllR H' xs rs := ⟨h.1, fun i y r e1 e2 => (h.2 i y r e1 e2).keep s⟩
inductive RowsIs (H : Hp) : V → Option (List (Option (V × V))) → Prop where
  | lst {b : Addr} {xs : List V} {rs : List (Option (V × V))} (h : H b = some (.lst xs)) (a : AllR H xs rs) (l : xs.length ≤ 100) : RowsIs H (.ref b) (some rs)
  | tup {b : Addr} {xs : List V} {rs : List (Option (V × V))} (h : H b = some (.tup xs)) (a : AllR H xs rs) (l : xs.length ≤ 100) : RowsIs H (.ref b) (some rs)
  | oth {y : V} {n : String} (h : Kd H y n) (l : seqV n = false) : RowsIs H y none
theorem RowsIs.kd {H : Hp} {y : V} {r : Option (List (Option (V × V)))} (h : RowsIs H y r) : ∃ n, Kd H y n ∧ (seqV n = false → r = none) := by
  cases h with
  | lst h a l => exact ⟨_, .lst _ _ h, fun z => nomatch z⟩
  | tup h a l => exact ⟨_, .tup _ _ h, fun z => nomatch z⟩
  | oth h l => exact ⟨_, h, fun _ => rfl⟩
theorem RowsIs.keep {H H' : Hp} {y : V} {r : Option (List (Option (V × V)))} (h : RowsIs H y r) (s : Same H H') : RowsIs H' y r := by
  cases h with
  | lst h a l => exact .lst (s _ _ h) (a.keep s) l
  | tup h a l => exact .tup (s _ _ h) (a.keep s) l
  | oth h l => exact .oth (h.keep s) l
/-- a Kinds stands at p: its pairs -/
structure KindsAt (C : Addr) (H : Hp) (p : Addr) (ps : List (Str × V)) : Prop where
  ob : ∃ (dx : Addr) (fs : List (Str × V)) (r n d : Addr) (ts : List Addr), H p = some (.ins C dx fs) ∧ fs.lookup ("rows" : Str) = some (.ref r) ∧ fs.lookup ("names" : Str) = some (.ref n) ∧ fs.lookup ("_arities" : Str) = some (.ref d) ∧
    (∀ m : Str, ¬ m = Str.ofString "rows" → ¬ m = Str.ofString "names" → ¬ m = Str.ofString "_arities" → fs.lookup m = none) ∧
    H r = some (.tup (ts.map V.ref)) ∧ ts.length = ps.length ∧ (∀ (i : Nat) (t : Addr) (q : Str × V), ts[i]? = some t → ps[i]? = some q → H t = some (.tup [.str q.1, q.2])) ∧
    H n = some (.tup (ps.map fun q => V.str q.1)) ∧ H d = some (.dK (kvOf ps))
theorem KindsAt.keep {C : Addr} {H H' : Hp} {p : Addr} {ps : List (Str × V)} (k : KindsAt C H p ps) (s : Same H H') : KindsAt C H' p ps := by
  obtain ⟨dx, fs, r, n, d, ts, h1, h2, h3, h4, h5, h6, h7, h8, h9, h10⟩ := k.ob
  exact ⟨dx, fs, r, n, d, ts, s _ _ h1, h2, h3, h4, h5, s _ _ h6, h7, fun i t q e1 e2 => s _ _ (h8 i t q e1 e2), s _ _ h9, s _ _ h10⟩
/-- a row that may follow is a label not seen and a small number -/
theorem rowWord_none {names : List Str} {r : Option (V × V)} (h : rowWord names r = none) : ∃ (z : Str) (k : Int), r = some (.str z, .int k) ∧ isLab z = true ∧ ¬ z = Str.ofString "year" ∧ ¬ z ∈ names ∧ 0 ≤ k ∧ k ≤ 2 := by
  cases r with
  | none => cases h
  | some p =>
    obtain ⟨n, a⟩ := p
    cases n with
    | str z =>
      have h : (if isLab z = true then (if z = Str.ofString "year" then some (Str.ofString "year") else if z ∈ names then some (Str.ofString "double") else if wholeV a 0 2 = true then none else some (Str.ofString "arity")) else some (Str.ofString "label")) = none := h
      by_cases h1 : isLab z = true
      · rw [if_pos h1] at h
        by_cases h2 : z = Str.ofString "year"
        · rw [if_pos h2] at h; cases h
        · rw [if_neg h2] at h
          by_cases h3 : z ∈ names
          · rw [if_pos h3] at h; cases h
          · rw [if_neg h3] at h
            by_cases h4 : wholeV a 0 2 = true
            · cases a with
              | int k =>
                have h4 : (decide (0 ≤ k) && decide (k ≤ 2)) = true := h4
                rw [Bool.and_eq_true, decide_eq_true_eq, decide_eq_true_eq] at h4
                exact ⟨z, k, rfl, h1, h2, h3, h4.1, h4.2⟩
              | _ => cases h4
            · rw [if_neg h4] at h; cases h
      · rw [if_neg h1] at h; cases h
    | _ => cases h
theorem scanK_step {names : List Str} {rs : List (Option (V × V))} {i : Nat} {r : Option (V × V)} (e : rs[i]? = some r) : scanK names i (rs.drop i) = match rowWord names r with
    | some w => some (i, w)
    | none => scanK (names ++ [nameOf r]) (i + 1) (rs.drop (i + 1)) := by
  have lt : i < rs.length := (List.getElem?_eq_some_iff.mp e).1
  have e2 : rs[i] = r := (List.getElem?_eq_some_iff.mp e).2
  rw [List.drop_eq_getElem_cons lt, e2]
  rfl
theorem take_succ_of {α : Type} {l : List α} {i : Nat} {x : α} (e : l[i]? = some x) : l.take (i + 1) = l.take i ++ [x] := by
  rw [List.take_add_one, e]
  rfl
theorem kvOf_put {ps : List (Str × V)} {z : Str} {a : V} (h : ¬ z ∈ ps.map (·.1)) : putK (kvOf ps) (Sum.inr z : Key) a = kvOf (ps ++ [(z, a)]) := by
  have e : valV (kvOf ps) (Sum.inr z : Key) = none := by
    have q := kv_in z ps
    rw [decide_eq_false h] at q
    cases e : valV (kvOf ps) (Sum.inr z : Key) with
    | none => rfl
    | some v => rw [e] at q; cases q
  rw [putK_new _ e]
  simp [kvOf]
theorem kvOf_keys (ps : List (Str × V)) : (kvOf ps).map (fun kv => kV kv.1) = ps.map fun q => V.str q.1 := by
  simp [kvOf, kV]
/-- what __init__ promises: the pairs, or the first wrong row -/
def spKinds (K : PySem.W.Frag) (C CB : Addr) : Sp := fun vs H Q E => ∃ (p dx : Addr) (y : V) (r : Option (List (Option (V × V)))), vs = [.ref p, y] ∧ H p = some (.ins C dx []) ∧ RowsIs H y r ∧ y ≠ .ref p ∧ y ≠ .ref dx ∧
  match rowsDue r with
  | some (i, w) => ∀ d H', H d = none → Same H H' → H' d = some (.xd [("what", .str w), ("index", .int (i : Nat))]) → E (.ref CB) (some d) H'
  | none => ∀ (rs : List (Option (V × V))) H', r = some rs → (∀ b o, H b = some o → b ≠ p → H' b = some o) → KindsAt C H' p (rs.map prOf) → Q .non H'
end Kx

set_option maxHeartbeats 4000000
namespace Kx
open PySem L2
/-- what is known of the class Kinds -/
structure KC (K : PySem.W.Frag) (C : Addr) : Prop where
  cl : Cls K C
  nR : NoAttr K C "rows"
  nN : NoAttr K C "names"
  nA : NoAttr K C "_arities"
  ca : PySem.W.findIn K (.ref C) "__class__" = some (some (.builtin "object.__class__"))
  cg : PySem.W.specialIn K (.builtin "object.__class__") "__get__" = some (some (.builtin "getset_descriptor.__get__"))
  ct : PySem.W.takesIn K (.builtin "object.__class__") = some true
  cm : PySem.W.mroIn K C (.type "object") = some true
  isT : PySem.W.kitOne K (.type "tuple") (.ref C) = some false
theorem s_rn : ¬ (Str.ofString "rows") = Str.ofString "names" := by decide +kernel
theorem s_ra : ¬ (Str.ofString "rows") = Str.ofString "_arities" := by decide +kernel
theorem s_na : ¬ (Str.ofString "names") = Str.ofString "_arities" := by decide +kernel
def kFs (r n d : Addr) : List (Str × V) := putF "_arities" (.ref d) (putF "names" (.ref n) (putF "rows" (.ref r) []))
theorem kFs_rows (r n d : Addr) : (kFs r n d).lookup ("rows" : Str) = some (.ref r) := by
  unfold kFs
  rw [lookup_putF, if_neg s_ra, lookup_putF, if_neg s_rn, lookup_putF, if_pos rfl]
theorem kFs_names (r n d : Addr) : (kFs r n d).lookup ("names" : Str) = some (.ref n) := by
  unfold kFs
  rw [lookup_putF, if_neg s_na, lookup_putF, if_pos rfl]
theorem kFs_ar (r n d : Addr) : (kFs r n d).lookup ("_arities" : Str) = some (.ref d) := by
  unfold kFs
  rw [lookup_putF, if_pos rfl]
theorem kFs_no (r n d : Addr) {m : Str} (h1 : ¬ m = Str.ofString "rows") (h2 : ¬ m = Str.ofString "names") (h3 : ¬ m = Str.ofString "_arities") : (kFs r n d).lookup m = none := by
  unfold kFs
  rw [lookup_putF, if_neg h3, lookup_putF, if_neg h2, lookup_putF, if_neg h1]
  rfl
section
variable {P : Program} {w : World} {K : PySem.W.Frag} {mg : Str → Option Value} {base : Heap}
theorem scKinds : FnScope ["self", "rows", "arities", "index", "row", "word", "name", "arity"] ["self", "rows"] (defScope sKinds_init) := ⟨rfl, rfl, rfl, by decide +kernel, rfl, by decide +kernel, by decide +kernel⟩
theorem ok_kinds {f C CB fB : Addr} {fd fdB : FuncData} (F : Fun K "__init__" "Kinds.__init__" sKinds_init f fd) (T : Bl mg) (B : Bm mg) (M : Km mg) (KX : KC K C) (Sq : HasF P w K mg base "is_sequence" 1 ["thing"] spSeq) (R : HasF P w K mg base "_row_fault" 2 ["row", "arities"] spRowFault)
    (EB : ErC P w K mg base "BadKinds" ["self", "index", "what"] CB fB fdB (spInit2 K CB "index" "what")) (n1 : PySem.W.findIn K (.ref CB) "index" = some none) (n2 : PySem.W.findIn K (.ref CB) "what" = some none) :
    FnOk P w K mg base (L2.CX P w) 3 f fd ["self", "rows"] (spKinds K C CB) := by
  obtain ⟨f1, fd1, Sq⟩ := Sq; obtain ⟨f2, fd2, R⟩ := R
  obtain ⟨t1, mM⟩ := M.many
  refine F.okX scKinds (fun vs H Q E h => ?_) (fun cdv A outer s H vs Q E hr h => ?_)
  · obtain ⟨p, dx, y, r, rfl, _⟩ := h
    rfl
  · obtain ⟨p, dx, y, r, rfl, hp, hy, yp, yd, k⟩ := h
    have hu := hu_of hr
    have hr1 : Room 1 _ := hr.mono (by decide)
    refine ⟨_, (C8.pss_cut (ps_if (PW.pt (pw_or (pt_not (pt_val (pe_call Sq.G hr1 (by rfl) Sq.m Sq.kp Sq.b .nil pass0 (pa_cons (pv 1) pa_nil)))) (pw_or1 (pt_not (pt_chain op_le op_le pe_int (pe_callB call_len_seq (by rfl) T.len PySem.boot_len (pa_cons (pv 1) pa_nil)) (pe_glob (v := .int 6) rfl mM ⟨_, rfl⟩)))))) (pss_one (ps_raise rfl (takes_of rfl rfl rfl rfl) (pmk_oex EB.T EB.iC EB.tI EB.G hr EB.b .nil pass0 (by rfl) EB.gC (pa_cons pe_int (pa_cons pe_str pa_nil))))) pss_nil)
    (pss_cons (ps_set (i := 2) scKinds.nd rfl (Or.inl rfl) pe_dnewK)
    (C8.pss_cut (ps_for (passes_of rfl) rfl (pi_enumB (by rfl) T.enumerate (pa_cons (pv 1) pa_nil)) (pg_tup rfl (pgs_cons (pg_name (i := 3) scKinds.nd rfl (Or.inl rfl)) (pgs_cons (pg_name (i := 4) scKinds.nd rfl (Or.inl rfl)) pgs_nil)))
        (pss_cons (ps_set (i := 5) scKinds.nd rfl (Or.inl rfl) (pe_call R.G hr (by rfl) R.m R.kp R.b .nil pass0 (pa_cons (pv 4) (pa_cons (pv 2) pa_nil))))
    (pss_cons (ps_if (pt_cmpR op_notN (pv 5) pe_non (nomark _)) (pss_one (ps_raise rfl (takes_of rfl rfl rfl rfl) (pmk_oex EB.T EB.iC EB.tI EB.G hr EB.b .nil pass0 (by rfl) EB.gC (pa_cons (pv 3) (pa_cons (pv 5) pa_nil))))) pss_nil)
    (pss_one (ps_dput hu (pv 2) (pe_ix ix_seq (pv 4) pe_int (fun _ _ => rfl)) (pe_ix ix_seq (pv 4) pe_int (fun _ _ => rfl)) rfl)))))
    (pss_cons (ps_fld (pv 0) (pe_callTy call_tuple_of (by rfl) B.tuple (by decide +kernel) (pa_cons (pe_lock (pe_lc (own := [("name", 6), ("arity", 7)]) (g := gTup K 2 (gCons (gName 6) (gCons (gName 7) gNil))) (tt := tYes) (by rfl) scKinds.nd (pi_items (pv 2)) (blkOk_by (own := [("name", 6), ("arity", 7)]) (N := ["self", "rows", "arities", "index", "row", "word", "name", "arity"]) (sc := defScope sKinds_init) (by decide +kernel))
        (fun _ _ _ _ _ => pg_tup rfl (pgs_cons (pg_name scKinds.nd rfl (.inl rfl)) (pgs_cons (pg_name scKinds.nd rfl (.inl rfl)) pgs_nil))) (fun _ _ _ _ _ => pts_nil) (fun _ _ _ _ _ => pe_tup (pa_cons (pv 6) (pa_cons (pv 7) pa_nil))))) pa_nil)) rfl)
    (pss_cons (ps_fld (pv 0) (pe_callTy (call_tuple_dK rfl) (by rfl) B.tuple (by decide +kernel) (pa_cons (pv 2) pa_nil)) rfl)
    (pss_one (ps_fld (pv 0) (pv 2) rfl))))))), ?_⟩
    -- the first test
    refine ⟨fun σ H1 => ∃ (b : Addr) (xs : List V) (rs : List (Option (V × V))), y = .ref b ∧ r = some rs ∧ σ = [some (.ref p), some (.ref b), none, none, none, none, none, none] ∧ Same H H1 ∧ (H1 b = some (.lst xs) ∨ H1 b = some (.tup xs)) ∧ AllR H1 xs rs ∧ 1 ≤ rs.length ∧ rs.length ≤ 6, ?_, ?_⟩
    · obtain ⟨n, kd, kn⟩ := hy.kd
      refine ⟨_, rfl, y, n, rfl, kd, fun H1 s1 => ⟨_, rfl, ?_⟩⟩
      have hy1 := hy.keep s1
      have bad : rowsDue r = some (0, Str.ofString "rows") → ∀ H', Same H H' → [V.int 0, V.str "rows"].length ≤ 1000 ∧ ∀ a, H' a = none → spInit2 K CB "index" "what" (.ref a :: ([V.int 0, V.str "rows"] ++ [])) (upd H' a (exo a CB none)) (fun v H2 => v = .non ∧ ∃ (d : Addr) (fs : List (Str × V)), H2 a = some (exo a CB (some d)) ∧ H2 d = some (exd d fs) ∧ H' d = none ∧ E (.ref CB) (some d) (upd (del H2 a) d (.xd fs))) (fun _ _ _ => False) := fun e H' s => by
        rw [e] at k
        exact fin2 EB.T n1 n2 fun d H2 hd s2 e2 => k d H2 (s.free hd) (s.trans s2) e2
      cases e1 : seqV n with
      | false => exact iteT (bad (by rw [kn e1]; rfl) _ s1)
      | true =>
        refine iteF ?_
        cases hy1 with
        | lst h a l =>
          rename_i b xs rs
          have al := a.1
          refine ⟨_, rfl, _, _, rfl, .inl (SqL.of h), _, _, rfl, rfl, _, rfl, ?_⟩
          refine ite2 (fun h1 => ?_) (fun h1 => ?_)
          · have h1 := of_decide_eq_true h1
            refine ⟨_, _, rfl, rfl, _, rfl, ?_⟩
            refine ite2 (fun h2 => ?_) (fun h2 => ?_)
            · have h2 : ¬ ((xs.length : Nat) : Int) ≤ 6 := fun e => by rw [decide_eq_true e] at h2; cases h2
              exact bad (by show (if _ then _ else _) = _; rw [if_neg (by omega)]) _ s1
            · have h2 : ((xs.length : Nat) : Int) ≤ 6 := by
                by_cases q : ((xs.length : Nat) : Int) ≤ 6
                · exact q
                · rw [decide_eq_false q] at h2
                  exact absurd rfl h2
              exact ⟨b, xs, rs, rfl, rfl, rfl, s1, .inl h, a, by omega, by omega⟩
          · have h1 : ¬ (1 : Int) ≤ ((xs.length : Nat) : Int) := fun e => h1 (decide_eq_true e)
            exact ⟨_, rfl, iteT (bad (by show (if _ then _ else _) = _; rw [if_neg (by omega)]) _ s1)⟩
        | tup h a l =>
          rename_i b xs rs
          have al := a.1
          refine ⟨_, rfl, _, _, rfl, .inr (SqT.of h), _, _, rfl, rfl, _, rfl, ?_⟩
          refine ite2 (fun h1 => ?_) (fun h1 => ?_)
          · have h1 := of_decide_eq_true h1
            refine ⟨_, _, rfl, rfl, _, rfl, ?_⟩
            refine ite2 (fun h2 => ?_) (fun h2 => ?_)
            · have h2 : ¬ ((xs.length : Nat) : Int) ≤ 6 := fun e => by rw [decide_eq_true e] at h2; cases h2
              exact bad (by show (if _ then _ else _) = _; rw [if_neg (by omega)]) _ s1
            · have h2 : ((xs.length : Nat) : Int) ≤ 6 := by
                by_cases q : ((xs.length : Nat) : Int) ≤ 6
                · exact q
                · rw [decide_eq_false q] at h2
                  exact absurd rfl h2
              exact ⟨b, xs, rs, rfl, rfl, rfl, s1, .inr h, a, by omega, by omega⟩
          · have h1 : ¬ (1 : Int) ≤ ((xs.length : Nat) : Int) := fun e => h1 (decide_eq_true e)
            exact ⟨_, rfl, iteT (bad (by show (if _ then _ else _) = _; rw [if_neg (by omega)]) _ s1)⟩
        | oth h l =>
          rw [← (kd.keep s1).uniq h, e1] at l
          cases l
    -- arities = {}
    rintro σ H1 ⟨b, xs, rs, rfl, rfl, rfl, s1, hb, al, l1, l6⟩ d hd
    have due : rowsDue (some rs) = scanK [] 0 rs := if_pos ⟨l1, l6⟩
    rw [due] at k
    have hd0 : H d = none := s1.free hd
    have bd : b ≠ d := by
      rcases hb with hb | hb
      · exact ne_of_none hb hd
      · exact ne_of_none hb hd
    have s2 : Same H1 (upd H1 d (.dK [])) := sameUpd (Same.refl _) hd
    -- the loop
    refine ⟨fun σ H2 => ∃ v3 v4 v5 : Option V, σ = [some (.ref p), some (.ref b), some (.ref d), v3, v4, v5, none, none] ∧ Same H1 H2 ∧ H2 d = some (.dK (kvOf (rs.map prOf))) ∧ scanK [] 0 rs = none, ?_, ?_⟩
    · refine ⟨_, rfl, b, xs, rfl, ?_⟩
      refine for_enumB (K := K) (a := b) (xs := xs) (fun i σ H2 => ∃ v3 v4 v5 : Option V, σ = [some (.ref p), some (.ref b), some (.ref d), v3, v4, v5, none, none] ∧ Same H1 H2 ∧ H2 d = some (.dK (kvOf ((rs.take i).map prOf))) ∧ scanK [] 0 rs = scanK (((rs.take i).map prOf).map (·.1)) i (rs.drop i))
        ⟨none, none, none, rfl, s2, upd_same, rfl⟩ ?_ ?_ ?_
      · rcases hb with hb | hb
        · exact .inl fun i σ H2 ⟨_, _, _, _, s, _⟩ => SqL.of (s _ _ hb)
        · exact .inr fun i σ H2 ⟨_, _, _, _, s, _⟩ => SqT.of (s _ _ hb)
      · rintro i x σ H2 t hi ⟨v3, v4, v5, rfl, s3, d3, sc⟩ ht
        have ltx : i < xs.length := (List.getElem?_eq_some_iff.mp hi).1
        have ltr : i < rs.length := by have := al.1; omega
        have hr' : rs[i]? = some rs[i] := List.getElem?_eq_getElem ltr
        have row := al.2 i x _ hi hr'
        have s4 : Same H1 (upd H2 t (.tup [.int (i : Nat), x])) := sameUpd s3 ht
        have dt : t ≠ d := (ne_of_none d3 ht).symm
        refine ⟨t, _, rfl, SqT.of upd_same, rfl, _, _, rfl, _, _, rfl, rfl, ?_⟩
        refine ⟨_, rfl, _, rfl, x, d, _, _, rfl, row.keep s4, by rw [upd_ne dt.symm]; exact d3, fun H3 s5 => ?_⟩
        have s6 : Same H1 H3 := s4.trans s5
        have d4 : H3 d = some (.dK (kvOf ((rs.take i).map prOf))) := s5 _ _ (by rw [upd_ne dt.symm]; exact d3)
        rw [scanK_step hr'] at sc
        cases e : rowWord (((rs.take i).map prOf).map (·.1)) rs[i] with
        | some w' =>
          rw [e] at sc
          rw [sc] at k
          refine ⟨_, rfl, rfl, _, rfl, iteT ?_⟩
          refine ⟨_, rfl, _, rfl, fin2 EB.T n1 n2 fun d' H4 hd' s7 e7 => k d' H4 ?_ (s1.trans (s6.trans s7)) e7⟩
          exact (s1.trans s6).free hd'
        | none =>
          rw [e] at sc
          refine ⟨_, rfl, rfl, _, rfl, iteF ?_⟩
          obtain ⟨z, kk, er, _, _, hnot, _, _⟩ := rowWord_none e
          have row3 := row.keep s6
          rw [er] at row3
          have len : (kvOf ((rs.take i).map prOf)).length < sizeLine := small1000 (by simp [kvOf]; omega)
          have put : ∀ {σ' : L2.St}, σ' = [some (V.ref p), some (V.ref b), some (V.ref d), some (V.int (i : Nat)), some x, some V.non, none, none] → ∃ v3 v4 v5 : Option V, σ' = [some (.ref p), some (.ref b), some (.ref d), v3, v4, v5, none, none] ∧ Same H1 (upd H3 d (.dK (putK (kvOf ((rs.take i).map prOf)) (Sum.inr z : Key) (V.int kk)))) ∧ upd H3 d (.dK (putK (kvOf ((rs.take i).map prOf)) (Sum.inr z : Key) (V.int kk))) d = some (.dK (kvOf ((rs.take (i + 1)).map prOf))) ∧ scanK [] 0 rs = scanK (((rs.take (i + 1)).map prOf).map (·.1)) (i + 1) (rs.drop (i + 1)) := fun es => by
            have et : (rs.take (i + 1)).map prOf = (rs.take i).map prOf ++ [(z, V.int kk)] := by
              rw [take_succ_of hr', List.map_append, er]
              rfl
            refine ⟨_, _, _, es, fun c o ec => ?_, ?_, ?_⟩
            · rw [upd_ne (ne_of_none ec hd)]
              exact s6 c o ec
            · rw [upd_same, kvOf_put hnot, et]
            · rw [sc, et, List.map_append, er]
              rfl
          cases row3 with
          | lst h hn ha => exact ⟨_, rfl, .inl ⟨_, _, _, _, rfl, rfl, SqL.of h, rfl, _, rfl, _, rfl, .inl ⟨_, _, _, _, rfl, rfl, SqL.of h, rfl, d, _, rfl, DPut.k (k := Sum.inr z) d4 len, put rfl⟩⟩⟩
          | tup h hn ha => exact ⟨_, rfl, .inr (.inl ⟨_, _, _, _, rfl, rfl, SqT.of h, rfl, _, rfl, _, rfl, .inr (.inl ⟨_, _, _, _, rfl, rfl, SqT.of h, rfl, d, _, rfl, DPut.k (k := Sum.inr z) d4 len, put rfl⟩)⟩)⟩
      · rintro σ H2 ⟨v3, v4, v5, rfl, s3, d3, sc⟩
        refine ⟨v3, v4, v5, rfl, s3, ?_, ?_⟩
        · rw [d3, al.1, List.take_length]
        · rw [sc, al.1, List.drop_length]; rfl
    -- the fields
    rintro σ H2 ⟨v3, v4, v5, rfl, s3, d3, sc⟩
    rw [sc] at k
    have pd : p ≠ d := ne_of_none (s1 _ _ hp) hd
    have hp2 : H2 p = some (.ins C dx []) := s3 _ _ (s1 _ _ hp)
    have pl : (rs.map prOf).length = rs.length := by simp
    refine ⟨d, _, d3, trivial, fun od => ?_⟩
    refine ⟨_, rfl, d, od, kvOf (rs.map prOf), rfl, upd_same, fun D hD => ?_⟩
    have Dd : D ≠ d := fun e => by rw [e, upd_same] at hD; cases hD
    have hD2 : H2 D = none := by rw [upd_ne Dd] at hD; exact hD
    refine lc_it walk_items (fun i H3 => (∀ c o, H2 c = some o → c ≠ d → H3 c = some o) ∧ H3 d = some (.frz od (.dK (kvOf (rs.map prOf)))) ∧ ∃ ts : List Addr, ts.length = i ∧ H3 D = some (.lst (ts.map V.ref)) ∧ ∀ (j : Nat) (t : Addr) (q : Str × V), ts[j]? = some t → (rs.map prOf)[j]? = some q → H3 t = some (.tup [.str q.1, q.2]))
      ⟨fun c o e n => ?_, ?_, [], rfl, upd_same, fun j t q e _ => by cases e⟩ (fun i H3 _ w => w.2.1) ?_ ?_
    · rw [upd_ne (ne_of_none e hD2), upd_ne n]
      exact e
    · rw [upd_ne Dd.symm, upd_same]
    · rintro i v H3 H4 hi ⟨kp, fz, ts, tl, hDs, hts⟩ ⟨t, x, y, rfl, ht, rfl, ex, ey⟩
      have lti : i < (rs.map prOf).length := by simpa [kvOf] using hi
      have eq : (rs.map prOf)[i]? = some (rs.map prOf)[i] := List.getElem?_eq_getElem lti
      have ekv : (kvOf (rs.map prOf))[i]? = some (Sum.inr (rs.map prOf)[i].1, (rs.map prOf)[i].2) := by
        unfold kvOf
        rw [List.getElem?_map, eq]
        rfl
      have ex : (kvOf (rs.map prOf))[i]?.map (fun kv => kV kv.1) = some x := ex
      have ey : (kvOf (rs.map prOf))[i]?.map Prod.snd = some y := ey
      rw [ekv] at ex ey
      cases ex
      cases ey
      refine ⟨t, _, rfl, SqT.of upd_same, rfl, _, _, rfl, _, _, rfl, rfl, rfl, ?_⟩
      have tD : t ≠ D := (ne_of_none hDs ht).symm
      have td : t ≠ d := (ne_of_none fz ht).symm
      refine ⟨_, rfl, _, rfl, (by show 2 ≤ sizeLine; decide), fun u hu' => ?_⟩
      have hu3 : H3 u = none := by
        by_cases e : u = t
        · rw [e]; exact ht
        · rw [upd_ne e] at hu'; exact hu'
      have uD : u ≠ D := (ne_of_none hDs hu3).symm
      have ud : u ≠ d := (ne_of_none fz hu3).symm
      refine ⟨ts.map V.ref, by rw [upd_ne uD.symm, upd_ne tD.symm]; exact hDs, small1000 (by simp; omega), fun c o e n => ?_, ?_, ts ++ [u], by simp [tl], by rw [upd_same, List.map_append]; rfl, fun j t' q e1 e2 => ?_⟩
      · have n1 : c ≠ u := ne_of_none (kp c o e n) hu3
        have n2 : c ≠ t := ne_of_none (kp c o e n) ht
        rw [upd_ne (ne_of_none e hD2), upd_ne n1, upd_ne n2]
        exact kp c o e n
      · rw [upd_ne Dd.symm, upd_ne ud.symm, upd_ne td.symm]
        exact fz
      · by_cases lt : j < ts.length
        · rw [List.getElem?_append_left lt] at e1
          have q3 := hts j t' q e1 e2
          have n0 : t' ≠ D := fun e => by rw [e, hDs] at q3; cases q3
          rw [upd_ne n0, upd_ne (ne_of_none q3 hu3), upd_ne (ne_of_none q3 ht)]
          exact q3
        · rw [List.getElem?_append_right (by omega)] at e1
          have j0 : j = i := by
            have := (List.getElem?_eq_some_iff.mp e1).1
            simp at this
            omega
          subst j0
          have e3 : t' = u := by
            rw [tl, Nat.sub_self] at e1
            exact (Option.some.inj e1).symm
          rw [eq] at e2
          cases e2
          rw [e3, upd_ne uD, upd_same]
          rfl
    rintro H3 ⟨kp, fz, ts, tl, hDs, hts⟩
    have tl : ts.length = (rs.map prOf).length := by rw [tl]; simp [kvOf]
    have al' : ∀ (c : Addr) (o : HO), H1 c = some o → H3 c = some o := fun c o e => kp c o (s3 c o e) (ne_of_none e hd)
    -- behind the lock
    have key : ∀ c, c ≠ d → upd H3 d (.dK (kvOf (rs.map prOf))) c = H3 c := fun c n => upd_ne n
    refine ⟨fz, D, _, rfl, .inl ⟨SqL.of (by rw [key D Dd]; exact hDs), fun l hl => ?_⟩⟩
    have ld : l ≠ d := fun e => by rw [e, upd_same] at hl; cases hl
    have l3 : H3 l = none := by rw [key l ld] at hl; exact hl
    have hp3 : H3 p = some (.ins C dx []) := kp p _ hp2 pd
    have lp : l ≠ p := (ne_of_none hp3 l3).symm
    refine ⟨_, rfl, p, C, dx, [], rfl, by rw [upd_ne lp.symm, key p pd]; exact hp3, KX.cl, KX.nR, by decide, ?_⟩
    refine ⟨_, rfl, d, kvOf (rs.map prOf), rfl, by rw [upd_ne pd.symm, upd_ne ld.symm, upd_same], fun n hn => ?_⟩
    have np : n ≠ p := fun e => by rw [e, upd_same] at hn; cases hn
    rw [upd_ne np] at hn
    have nl : n ≠ l := fun e => by rw [e, upd_same] at hn; cases hn
    rw [upd_ne nl] at hn
    have nd : n ≠ d := fun e => by rw [e, upd_same] at hn; cases hn
    have n3 : H3 n = none := by rw [key n nd] at hn; exact hn
    refine ⟨_, rfl, p, C, dx, _, rfl, by rw [upd_ne np.symm, upd_same], KX.cl, KX.nN, Nat.lt_of_le_of_lt (length_putF _ _ _) (by decide), ?_⟩
    refine ⟨_, rfl, _, rfl, p, C, dx, _, rfl, upd_same, KX.cl, KX.nA, Nat.lt_of_le_of_lt (Nat.le_trans (length_putF _ _ _) (Nat.succ_le_succ (length_putF _ _ _))) (by decide), ?_⟩
    refine k rs _ rfl (fun c o e nc => ?_) ⟨dx, kFs l n d, l, n, d, ts, upd_same, kFs_rows _ _ _, kFs_names _ _ _, kFs_ar _ _ _, fun m h1 h2 h3 => kFs_no _ _ _ h1 h2 h3, ?_, tl, fun i t q e1 e2 => ?_, ?_, ?_⟩
    · have e1 := s1 _ _ e
      have e3 := al' _ _ e1
      rw [upd_ne nc, upd_ne nc, upd_ne (ne_of_none e3 n3), upd_ne nc, upd_ne (ne_of_none e3 l3), key c (ne_of_none e1 hd)]
      exact e3
    · rw [upd_ne lp, upd_ne lp, upd_ne nl.symm, upd_ne lp, upd_same]
    · have q3 := hts i t q e1 e2
      have tp : t ≠ p := fun e => by rw [e, hp3] at q3; cases q3
      have td : t ≠ d := fun e => by rw [e, fz] at q3; cases q3
      rw [upd_ne tp, upd_ne tp, upd_ne (ne_of_none q3 n3), upd_ne tp, upd_ne (ne_of_none q3 l3), key t td]
      exact q3
    · rw [upd_ne np, upd_ne np, upd_same, kvOf_keys]
    · rw [upd_ne pd.symm, upd_ne pd.symm, upd_ne nd.symm, upd_ne pd.symm, upd_ne ld.symm, upd_same]
end
end Kx

set_option maxHeartbeats 4000000
namespace Kx
open PySem L2
/-! the methods of Kinds -/
def vv (ks : List (Str × Int)) : List (Str × V) := ks.map fun q => (q.1, V.int q.2)
def pd (q : Str × Int) : PyData := .tuple [.str q.1, .int q.2]
def kd (ks : List (Str × Int)) : PyData := .tuple (ks.map pd)
theorem eqv_kd : ∀ ks ls : List (Str × Int), PyData.eqvAll (ks.map pd) (ls.map pd) = decide (ks = ls)
  | [], [] => rfl
  | [], _ :: _ => rfl
  | _ :: _, [] => rfl
  | (a, i) :: ks, (b, j) :: ls => by
    have e : PyData.eqv (pd (a, i)) (pd (b, j)) = ((a == b) && ((i == j) && true)) := by
      simp [pd, PyData.eqv, PyData.eqvAll]
    show (PyData.eqv (pd (a, i)) (pd (b, j)) && PyData.eqvAll (ks.map pd) (ls.map pd)) = _
    rw [e, eqv_kd ks ls]
    by_cases h1 : a = b
    · by_cases h2 : i = j
      · simp [h1, h2]
      · simp [h1, h2]
    · simp [h1]
theorem small_pd : ∀ ks : List (Str × Int), (∀ q ∈ ks, PyData.strOk q.1 = true) → PyData.canLayAll0 (ks.map pd) = true ∧ PyData.depthAll (ks.map pd) ≤ 1
  | [], _ => ⟨rfl, Nat.zero_le _⟩
  | q :: ks, h => by
    obtain ⟨h1, h2⟩ := small_pd ks fun r m => h r (.tail _ m)
    have h3 := h q (.head _)
    refine ⟨?_, ?_⟩
    · show (PyData.canLay0 (pd q) && _) = true
      rw [h1]
      simp [pd, PyData.canLay0, PyData.canLayAll0, h3]
    · show max (PyData.depth (pd q)) (PyData.depthAll (ks.map pd)) ≤ 1
      have : PyData.depth (pd q) = 1 := by simp [pd, PyData.depth, PyData.depthAll]
      omega
theorem shaped_kd {ks : List (Str × Int)} (h : ∀ q ∈ ks, PyData.strOk q.1 = true) : SeqAt.shaped (kd ks) = true := by
  obtain ⟨h1, h2⟩ := small_pd ks h
  unfold SeqAt.shaped
  rw [Bool.and_eq_true]
  refine ⟨h1, decide_eq_true ?_⟩
  show PyData.depthAll (ks.map pd) + 1 ≤ 64
  omega
theorem dpAll_pd {K : PySem.W.Frag} {H : Hp} : ∀ (ks : List (Str × Int)) (ts : List Addr), ts.length = ks.length → (∀ (i : Nat) (t : Addr) (q : Str × Int), ts[i]? = some t → ks[i]? = some q → H t = some (.tup [.str q.1, .int q.2])) → DpAll K H (ts.map V.ref) (ks.map pd)
  | [], [], _, _ => .nil
  | [], _ :: _, h, _ => by cases h
  | _ :: _, [], h, _ => by cases h
  | q :: ks, t :: ts, h, f => .cons (.tup (SqT.of (f 0 t q rfl rfl)) (.cons (.str _) (.cons (.int _) .nil))) (dpAll_pd ks ts (Nat.succ.inj h) fun i t q e1 e2 => f (i + 1) t q e1 e2)
/-- the tuple of the pairs -/
def RowsT (K : PySem.W.Frag) (H : Hp) (r : Addr) (ks : List (Str × Int)) : Prop := Dp K H (.ref r) (kd ks)
theorem KindsAt.get {K : PySem.W.Frag} {C : Addr} {H : Hp} {p : Addr} {ks : List (Str × Int)} (k : KindsAt C H p (vv ks)) : ∃ (dx : Addr) (fs : List (Str × V)) (r n d : Addr) (ts : List Addr), H p = some (.ins C dx fs) ∧ fs.lookup ("rows" : Str) = some (.ref r) ∧ fs.lookup ("names" : Str) = some (.ref n) ∧ fs.lookup ("_arities" : Str) = some (.ref d) ∧
    (∀ m : Str, ¬ m = Str.ofString "rows" → ¬ m = Str.ofString "names" → ¬ m = Str.ofString "_arities" → fs.lookup m = none) ∧ H r = some (.tup (ts.map V.ref)) ∧ ts.length = ks.length ∧ Dp K H (.ref r) (kd ks) ∧ H n = some (.tup (ks.map fun q => V.str q.1)) ∧ H d = some (.dK (kvOf (vv ks))) ∧
    (∀ (i : Nat) (t : Addr) (q : Str × Int), ts[i]? = some t → ks[i]? = some q → H t = some (.tup [.str q.1, .int q.2])) := by
  obtain ⟨dx, fs, r, n, d, ts, h1, h2, h3, h4, h5, h6, h7, h8, h9, h10⟩ := k.ob
  have l : ts.length = ks.length := by rw [h7]; simp [vv]
  have f : ∀ (i : Nat) (t : Addr) (q : Str × Int), ts[i]? = some t → ks[i]? = some q → H t = some (.tup [.str q.1, .int q.2]) := fun i t q e1 e2 => h8 i t (q.1, .int q.2) e1 (by unfold vv; rw [List.getElem?_map, e2]; rfl)
  exact ⟨dx, fs, r, n, d, ts, h1, h2, h3, h4, h5, h6, l, .tup (SqT.of h6) (dpAll_pd ks ts l f), by rw [h9]; simp [vv], h10, f⟩
def spKEq (C : Addr) : Sp := fun vs H Q _ => ∃ (p : Addr) (y : V) (ks : List (Str × Int)), vs = [.ref p, y] ∧ KindsAt C H p (vv ks) ∧ (∀ q ∈ ks, PyData.strOk q.1 = true) ∧
  ((∃ (b : Addr) (ls : List (Str × Int)), y = .ref b ∧ KindsAt C H b (vv ls) ∧ (∀ q ∈ ls, PyData.strOk q.1 = true) ∧ Q (.bl (decide (ks = ls))) H) ∨ ∃ (b : Addr) (zs : List V), y = .ref b ∧ H b = some (.tup zs) ∧ Q (.bl false) H)
section
variable {P : Program} {w : World} {K : PySem.W.Frag} {mg : Str → Option Value} {base : Heap}
theorem KC.ty {C : Addr} (k : KC K C) {H : Hp} {a dx : Addr} {fs : List (Str × V)} (h : H a = some (.ins C dx fs)) : TyX K H (.ref a) (.ref C) := .base (.ins h k.cl k.ca k.cg k.ct k.cm)
theorem kit_self {K : PySem.W.Frag} {c : Value} : PySem.W.kitOne K c c = some true := by
  unfold PySem.W.kitOne
  rw [beq_self_eq_true]
  rfl
theorem scKEq : FnScope ["self", "other"] ["self", "other"] (defScope sKinds_eq) := ⟨rfl, rfl, rfl, by decide +kernel, rfl, by decide +kernel, by decide +kernel⟩
theorem ok_keq {f C : Addr} {fd : FuncData} (F : Fun K "__eq__" "Kinds.__eq__" sKinds_eq f fd) (B : Bm mg) (KX : KC K C) (mK : mg "Kinds" = some (.ref C)) : FnOk P w K mg base CX0 1 f fd ["self", "other"] (spKEq C) := by
  refine F.ok scKEq (fun vs H Q E h => ?_) (fun cdv A outer s H vs Q E hr h => ?_)
  · obtain ⟨p, y, ks, rfl, _⟩ := h
    rfl
  · obtain ⟨p, y, ks, rfl, hk, ok, h⟩ := h
    refine ⟨_, pss_one (ps_ret (pe_and (pe_callB call_isi (by rfl) B.isinstance (by decide +kernel) (pa_cons (pv 1) (pa_cons (pe_glob (v := .ref C) rfl mK rfl) pa_nil))) (pe_one (pe_cmpR (op_eqD hr.units) (pe_fld (pv 0) rfl) (pe_fld (pv 1) rfl) (nomark _))))), ?_⟩
    obtain ⟨dx, fs, r, n, d, ts, h1, h2, h3, h4, h5, h6, h7, h8, h9, h10, _⟩ := hk.get (K := K)
    rcases h with ⟨b, ls, rfl, hb, okb, k⟩ | ⟨b, zs, rfl, hb, k⟩
    · obtain ⟨dx', fs', r', n', d', ts', g1, g2, g3, g4, g5, g6, g7, g8, g9, g10, _⟩ := hb.get (K := K)
      refine ⟨_, rfl, _, _, _, _, _, rfl, .own C, KX.ty g1, kit_self, _, rfl, iteT ?_⟩
      refine ⟨_, rfl, p, C, dx, fs, _, rfl, h1, KX.cl, KX.nR, h2, _, rfl, b, C, dx', fs', _, rfl, g1, KX.cl, KX.nR, g2, kd ks, kd ls, h8, g8, shaped_kd ok, shaped_kd okb, ?_⟩
      rw [show PyData.eqv (kd ks) (kd ls) = decide (ks = ls) from eqv_kd ks ls]
      exact k
    · exact ⟨_, rfl, _, _, _, _, _, rfl, .own C, .base (.tup hb), KX.isT, _, rfl, iteF k⟩
end
end Kx

set_option maxHeartbeats 4000000
namespace Kx
open PySem L2
theorem lab_ok {z : Str} (h : isLab z = true) : PyData.strOk z = true ∧ z.length ≤ 6 := by
  unfold isLab at h
  rw [Bool.and_eq_true, Bool.and_eq_true, decide_eq_true_eq, decide_eq_true_eq] at h
  refine ⟨?_, h.2.1⟩
  unfold PyData.strOk
  rw [Array.all_eq_true]
  intro i hi
  have h3 := List.all_eq_true.mp h.2.2 z.cps[i] (by simp)
  unfold isLow at h3
  rw [decide_eq_true_eq]
  simp only [Bool.and_eq_true, decide_eq_true_eq] at h3
  omega
def kIn (ks : List (Str × Int)) (x : V) : Bool := match x with
  | .str z => decide (z ∈ ks.map (·.1))
  | _ => false
theorem kIn_val (ks : List (Str × Int)) (z : Str) : (valV (kvOf (vv ks)) (Sum.inr z : Key)).isSome = kIn ks (.str z) := by
  rw [kv_in]
  show decide (z ∈ (vv ks).map (·.1)) = decide (z ∈ ks.map (·.1))
  unfold vv
  rw [List.map_map]
  rfl
def spKLen (C : Addr) : Sp := fun vs H Q _ => ∃ (p : Addr) (ks : List (Str × Int)), vs = [.ref p] ∧ KindsAt C H p (vv ks) ∧ Q (.int (ks.length : Nat)) H
def spKIn (C : Addr) : Sp := fun vs H Q _ => ∃ (p : Addr) (x : V) (n : String) (ks : List (Str × Int)), vs = [.ref p, x] ∧ KindsAt C H p (vv ks) ∧ Kd H x n ∧ Q (.bl (kIn ks x)) H
def kAr (ks : List (Str × Int)) (x : V) : Option V := match x with
  | .str z => valV (kvOf (vv ks)) (Sum.inr z : Key)
  | _ => none
theorem kAr_in (ks : List (Str × Int)) (x : V) : (kAr ks x).isSome = kIn ks x := by
  cases x with
  | str z => exact kIn_val ks z
  | _ => rfl
def spKAr (C CN : Addr) : Sp := fun vs H Q E => ∃ (p : Addr) (x : V) (n : String) (ks : List (Str × Int)), vs = [.ref p, x] ∧ KindsAt C H p (vv ks) ∧ Kd H x n ∧
  match kAr ks x with
  | some v => Q v H
  | none => ∀ d H', H d = none → Same H H' → H' d = some (.xd [("name", x)]) → E (.ref CN) (some d) H'
section
variable {P : Program} {w : World} {K : PySem.W.Frag} {mg : Str → Option Value} {base : Heap}
theorem scKLen : FnScope ["self"] ["self"] (defScope sKinds_len) := ⟨rfl, rfl, rfl, by decide +kernel, rfl, by decide +kernel, by decide +kernel⟩
theorem ok_klen {f C : Addr} {fd : FuncData} (F : Fun K "__len__" "Kinds.__len__" sKinds_len f fd) (T : Bl mg) (KX : KC K C) : FnOk P w K mg base CX0 1 f fd ["self"] (spKLen C) := by
  refine F.ok scKLen (fun vs H Q E h => ?_) (fun cdv A outer s H vs Q E hr h => ?_)
  · obtain ⟨p, ks, rfl, _⟩ := h
    rfl
  · obtain ⟨p, ks, rfl, hk, k⟩ := h
    obtain ⟨dx, fs, r, n, d, ts, h1, h2, h3, h4, h5, h6, h7, h8, h9, h10, _⟩ := hk.get (K := K)
    refine ⟨_, pss_one (ps_ret (pe_callB call_len_seq (by rfl) T.len PySem.boot_len (pa_cons (pe_fld (pv 0) rfl) pa_nil))), ?_⟩
    refine ⟨_, rfl, p, C, dx, fs, _, rfl, h1, KX.cl, KX.nR, h2, r, _, rfl, .inr (SqT.of h6), ?_⟩
    rw [List.length_map, h7]
    exact k
theorem scKIter : FnScope ["self"] ["self"] (defScope sKinds_iter) := ⟨rfl, rfl, rfl, by decide +kernel, rfl, by decide +kernel, by decide +kernel⟩
/-- where the names stand -/
def NamesOf (fs : List (Str × V)) (t : Addr) (_ : List V) : Prop := fs.lookup ("names" : Str) = some (.ref t)
theorem ok_kiter {f C : Addr} {fd : FuncData} (F : Fun K "__iter__" "Kinds.__iter__" sKinds_iter f fd) (mI : mg "iter" = none) (KX : KC K C) : FnA P w K mg base CX0 1 f fd ["self"] (spIterT K C NamesOf) := by
  refine okA F scKIter (fun A s vs H Q E h => ?_) (fun cdv A outer s H vs Q E hr h => ?_)
  · obtain ⟨a, dx, fs, rfl, _⟩ := h
    rfl
  · obtain ⟨a, dx, fs, rfl, h1, t, zs, hT, hq, k⟩ := h
    refine ⟨_, pss_one (ps_ret (pe_callB call_iterT (by rfl) mI (by decide +kernel) (pa_cons (pe_fld (pv 0) rfl) pa_nil))), ?_⟩
    refine ⟨_, rfl, a, C, dx, fs, _, rfl, h1, KX.cl, KX.nN, hT, t, zs, rfl, hq, fun it e1 e2 => k it e1 e2⟩
theorem scKIn : FnScope ["self", "thing"] ["self", "thing"] (defScope sKinds_contains) := ⟨rfl, rfl, rfl, by decide +kernel, rfl, by decide +kernel, by decide +kernel⟩
theorem ok_kin {f C : Addr} {fd : FuncData} (F : Fun K "__contains__" "Kinds.__contains__" sKinds_contains f fd) (B : Bm mg) (KX : KC K C) : FnOk P w K mg base CX0 1 f fd ["self", "thing"] (spKIn C) := by
  refine F.ok scKIn (fun vs H Q E h => ?_) (fun cdv A outer s H vs Q E hr h => ?_)
  · obtain ⟨p, x, n, ks, rfl, _⟩ := h
    rfl
  · obtain ⟨p, x, n, ks, rfl, hk, kd', k⟩ := h
    have hu := hu_of hr
    obtain ⟨dx, fs, r, n', d, ts, h1, h2, h3, h4, h5, h6, h7, h8, h9, h10, _⟩ := hk.get (K := K)
    refine ⟨_, pss_one (ps_ret (pe_and (pe_callB call_isi (by rfl) B.isinstance (by decide +kernel) (pa_cons (pv 1) (pa_cons (pe_bltn (v := .ty "str") (by rfl) B.str (by decide +kernel) rfl) pa_nil))) (pe_one (pe_cmp (pc_din hu (pv 1) (pe_fld (pv 0) rfl)) rfl)))), ?_⟩
    refine ⟨_, rfl, x, _, _, _, _, rfl, .ty _, kd'.ty, kit_ty (kit_str kd'.kits), _, rfl, ?_⟩
    cases kd' with
    | str z =>
      refine iteT ⟨_, rfl, _, rfl, p, C, dx, fs, _, rfl, h1, KX.cl, KX.nA, h4, d, _, rfl, DGet.k (k := Sum.inr z) h10, ?_⟩
      rw [kIn_val]
      exact k
    | _ => exact iteF k
end
end Kx

set_option maxHeartbeats 4000000
namespace Kx
open PySem PySem.Spec PyProof.Rows L2
section
variable {X : Cx} {CX : CXT} {k : Nat} {f C : Addr} {fd : FuncData} {ps : List Str} {sp : Sp} {x m : Str} {p pos apos : Pos} {e o : Expr} {es : List Expr} {t : TA} {ta : TE} {Ew : L2.St → XK}
/-- C(..) that may be refused, what is wished then depending on the slots -/
theorem run_makeS {pins : List (Addr × Obj)} {σ : L2.St} {H : Hp} {s : Shared} {Q : VK} {us : List Value} {vs : List V} (M : Mk X.K C f) (F : FnOk X.prog X.w X.K X.mg X.base CX k f fd ps sp) (hr : Room (k + 1) X.A) (hb : Binds X.K fd ps [])
    (hx : PassesAt CX X σ (Ew σ)) (I : Inv X pins σ H s) (r : Vals vs us)
    (h : ∀ x dx, H x = none → H dx = none → dx ≠ x → sp (.ref x :: vs) (upd (upd H dx (.own x)) x (.ins C dx [])) (fun v H2 => v = .non ∧ Q (.ref x) H2) (Ew σ)) :
    wpAny (model X.prog X.w) X.A (call (.ref C) us) (EP X pins σ Q) X.xe s := by
  have hq := h (s.heap.objs.size + 1) s.heap.objs.size (I.hok.fresh (Nat.le_succ _)) (I.hok.fresh (Nat.le_refl _)) (Nat.ne_of_lt (Nat.lt_succ_self _))
  have J := Inv.made (C := C) I
  have r2 : Vals (V.ref (s.heap.objs.size + 1) :: vs) (Value.ref (s.heap.objs.size + 1) :: us) := .cons rfl r
  have hl : (Value.ref (s.heap.objs.size + 1) :: us ++ []).length = ps.length := by
    have e := r2.length
    rw [F.len _ _ _ _ hq] at e
    rw [List.append_nil]
    exact e.symm
  have bd := hb _ (Value.ref (s.heap.objs.size + 1) :: us) J.kIn hl
  rw [List.append_nil] at bd
  refine wpAny_call (make_map (f := f) I.kIn M.makes M.init (beq_iff_eq.mp M.fn) (codeAny_mono (F.run _ X.stack _ _ ⟨Value.ref (s.heap.objs.size + 1) :: us, []⟩ (Value.ref (s.heap.objs.size + 1) :: us) _ _ (Ew σ) (hr.make C us []) (J.env0.make C us []) bd r2 hq) fun r s' got => ?_))
  rcases r with e | (_ | _ | _ | u)
  · exact hx pins _ _ e s' J got
  · exact False.elim got
  · exact False.elim got
  · exact False.elim got
  · obtain ⟨v, H', J3, rv, ev, q3⟩ := J.after got
    subst ev
    exact ⟨rv, ⟨V.ref (s.heap.objs.size + 1), H', J3, rfl, q3⟩⟩
def tMakeS (C : Addr) (sp : Sp) (Ew : L2.St → XK) (t : TA) : TE := fun σ H Q => t σ H fun vs H1 => ∀ x dx, H1 x = none → H1 dx = none → dx ≠ x → sp (.ref x :: vs) (upd (upd H1 dx (.own x)) x (.ins C dx [])) (fun v H2 => v = .non ∧ Q (.ref x) H2) (Ew σ)
theorem pe_makeS (M : Mk X.K C f) (F : FnOk X.prog X.w X.K X.mg X.base CX k f fd ps sp) (hr : Room (k + 1) X.A) (hg : Gl X x) (hm : X.mg x = some (.ref C)) (hb : Binds X.K fd ps []) (hx : ∀ σ, PassesAt CX X σ (Ew σ))
    (ha : PA X (e :: es) t) (hdb : (x == ("__debug__" : Str)) = false := by decide) (he : starEach (e :: es) X.env = (false, eval e X.env) :: starEach es X.env := by rfl) (hpl : (backTo pos (starEach es X.env)).any (·.1) = false := by rfl) :
    PE X (.Call (.Name x p) (e :: es) [] pos) (tMakeS C sp Ew t) := by
  refine ⟨fun pins s σ H Q I h => wpAny_Call_Name_kw (ld_glob I hg hm ?_ hdb)⟩
  refine PySem.W.callWith_K (h₀ := X.base) I.ok.mod.kin M.kp (thn (ha.run pos pins s σ H _ I h) fun us s1 ⟨vs, H1, J, r, q⟩ => ⟨J.kIn, ?_⟩) he hpl
  exact run_makeS M F hr hb (hx σ) J r q
/-- o.m(..) that may be refused -/
def tMethW (C : Addr) (m : Str) (sp : Sp) (Ew : L2.St → XK) (ta : TE) (t : TA) : TE := fun σ H Q => ta σ H fun x H1 => ∃ a dx fs, x = .ref a ∧ H1 a = some (.ins C dx fs) ∧ fs.lookup m = none ∧ t σ H1 fun vs H2 => sp (.ref a :: vs) H2 Q (Ew σ)
theorem pe_methW {pl : Sem Bool} (he : PE X o ta) (c : Cls X.K C) (hm : Meth X.K C m f) (F : FnOk X.prog X.w X.K X.mg X.base CX k f fd ps sp) (hr : Room k X.A) (hb : Binds X.K fd ps []) (hx : ∀ σ, PassesAt CX X σ (Ew σ)) (ha : PA X (e :: es) t)
    (hst : starEach (e :: es) X.env = (false, eval e X.env) :: starEach es X.env := by rfl) (hpl : (backTo pos (starEach es X.env)).any (·.1) = false := by rfl)
    (ht : eval (.Call (.Attribute o m apos) (e :: es) [] pos) X.env = (do
      let ov ← eval o X.env
      standAt apos.atName
      let (f, first) ← holding [ov] (getMethod ov m pl)
      callWith pos f first (backTo pos (starEach (e :: es) X.env)) (backToKw pos (keywordEach [] X.env))) := by rfl) :
    PE X (.Call (.Attribute o m apos) (e :: es) [] pos) (tMethW C m sp Ew ta t) := by
  refine ⟨fun pins s σ H Q I h => PySem.W.methodCall_KW (pl := pl) (thn (he.run pins s σ H _ I h) fun u s1 ⟨x, H1, J, rx, a, dx, fs, ex, ea, l, q⟩ => ?_) ht⟩
  subst ex
  obtain rfl : u = Value.ref a := rx
  refine getmeth_ok J ea c hm l (PySem.W.callWith_K (first := [.ref a]) (h₀ := X.base) I.ok.mod.kin hm.kp (thn (ha.run pos pins s1 σ H1 _ J q) fun us s2 ⟨vs, H2, J2, r, q2⟩ => ⟨J2.kIn, ?_⟩) hst hpl)
  exact run_fnS (us := .ref a :: us) (vs := .ref a :: vs) F hr hb (hx σ) J2 (.cons rfl r) q2
end
section
variable {P : Program} {w : World} {K : PySem.W.Frag} {mg : Str → Option Value} {base : Heap}
/-- an own method as the library's lemmas want it -/
structure OwnM (P : Program) (w : World) (K : PySem.W.Frag) (mg : Str → Option Value) (base : Heap) (C : Addr) (m : Str) (k : Nat) (ps : List Str) (sp : Sp) (g : Addr) (fd : FuncData) : Prop where
  M : Meth K C m g
  G : FnOk P w K mg base CX0 k g fd ps sp
  b : Binds K fd ps []
theorem OwnM.raw {C g : Addr} {m : Str} {k : Nat} {ps : List Str} {sp : Sp} {fd : FuncData} (o : OwnM P w K mg base C m k ps sp g fd) : FnR P w K mg base CX0 k g sp := (o.G.raw o.b .nil).imp fun vs H Q E h => by rw [List.append_nil]; exact h
end
end Kx

set_option maxHeartbeats 4000000
namespace Kx
open PySem L2
theorem pi_or {X : Cx} {t e : Expr} {u v : TI} (h : PI X t e u) (h' : PI X t e v) : PI X t e (fun σ H R => u σ H R ∨ v σ H R) :=
  ⟨fun pins s σ H R I q => q.elim (fun q => h.run pins s σ H R I q) fun q => h'.run pins s σ H R I q⟩
/-- a deed, as it stands -/
inductive DeedIs (H : Hp) : V → Option (List V) → Prop where
  | lst {b : Addr} {xs : List V} (h : H b = some (.lst xs)) (t : ∀ x ∈ xs, ∃ n, Thing H x n) (l : xs.length ≤ 900) : DeedIs H (.ref b) (some xs)
  | tup {b : Addr} {xs : List V} (h : H b = some (.tup xs)) (t : ∀ x ∈ xs, ∃ n, Thing H x n) (l : xs.length ≤ 900) : DeedIs H (.ref b) (some xs)
  | oth {y : V} {n : String} (h : Kd H y n) (l : seqV n = false) : DeedIs H y none
theorem DeedIs.keep {H H' : Hp} {y : V} {r : Option (List V)} (h : DeedIs H y r) (s : Same H H') : DeedIs H' y r := by
  cases h with
  | lst h t l => exact .lst (s _ _ h) (fun x m => (t x m).imp fun n q => q.keep s) l
  | tup h t l => exact .tup (s _ _ h) (fun x m => (t x m).imp fun n q => q.keep s) l
  | oth h l => exact .oth (h.keep s) l
theorem DeedIs.kd {H : Hp} {y : V} {r : Option (List V)} (h : DeedIs H y r) : ∃ n, Kd H y n ∧ (seqV n = false → r = none) := by
  cases h with
  | lst h a l => exact ⟨_, .lst _ _ h, fun z => nomatch z⟩
  | tup h a l => exact ⟨_, .tup _ _ h, fun z => nomatch z⟩
  | oth h l => exact ⟨_, h, fun _ => rfl⟩
/-- the number of persons of the kind -/
def kNum (ks : List (Str × Int)) (x : V) : Option Int := match x with
  | .str z => (ks.find? fun q => decide (q.1 = z)).map (·.2)
  | _ => none
theorem kAr_num : ∀ (ks : List (Str × Int)) (x : V), kAr ks x = (kNum ks x).map V.int := by
  intro ks x
  cases x with
  | str z =>
    show valV (kvOf (vv ks)) (Sum.inr z : Key) = ((ks.find? fun q => decide (q.1 = z)).map (·.2)).map V.int
    induction ks with
    | nil => rfl
    | cons q ks ih =>
      by_cases e : q.1 = z
      · have e1 : valV (kvOf (vv (q :: ks))) (Sum.inr z : Key) = some (V.int q.2) := valV_pos (congrArg Sum.inr e)
        rw [e1, List.find?_cons_of_pos (by simpa using e)]
        rfl
      · have e1 : valV (kvOf (vv (q :: ks))) (Sum.inr z : Key) = valV (kvOf (vv ks)) (Sum.inr z : Key) := valV_neg fun h => e (Sum.inr.inj h)
        rw [e1, ih, List.find?_cons_of_neg (by simpa using e)]
  | _ => rfl
def deedWord (ks : List (Str × Int)) : Option (List V) → Option Str
  | none => some "deed"
  | some [] => some "deed"
  | some (x :: xs) => match kNum ks x with
    | none => some "kind"
    | some k => if ((xs.length : Nat) : Int) = k then (if xs.all labV then none else some "person") else some "arity"
def spFault (C : Addr) : Sp := fun vs H Q _ => ∃ (p : Addr) (y : V) (r : Option (List V)) (ks : List (Str × Int)), vs = [.ref p, y] ∧ KindsAt C H p (vv ks) ∧ DeedIs H y r ∧ (∀ q ∈ ks, 0 ≤ q.2 ∧ q.2 ≤ 2) ∧ ∀ H', Same H H' → Q (wordV (deedWord ks r)) H'
theorem atI0 (x : V) (xs : List V) : atI (x :: xs) 0 = some x := by
  simp [atI, ixN]
theorem cut1 (x : V) (xs : List V) : cutV (x :: xs) (some 1) none = xs := by
  unfold cutV
  have e1 : HT.sIx (x :: xs).length 0 (some 1) = 1 := by
    simp [HT.sIx]
    try omega
  have e2 : HT.sIx (x :: xs).length (x :: xs).length none = (x :: xs).length := rfl
  rw [e1, e2]
  simp
theorem whole (x : V) (xs : List V) : ¬ (HT.sIx (x :: xs).length 0 (some 1) = 0 ∧ HT.sIx (x :: xs).length (x :: xs).length none = (x :: xs).length) := by
  have e1 : HT.sIx (x :: xs).length 0 (some 1) = 1 := by
    simp [HT.sIx]
    try omega
  rw [e1]
  exact fun h => absurd h.1 (by decide)
section
variable {P : Program} {w : World} {K : PySem.W.Frag} {mg : Str → Option Value} {base : Heap}
theorem scFault : FnScope ["self", "deed", "person"] ["self", "deed"] (defScope sKinds_fault) := ⟨rfl, rfl, rfl, by decide +kernel, rfl, by decide +kernel, by decide +kernel⟩
theorem ok_fault {f C gI : Addr} {fd fdI : FuncData} (F : Fun K "fault" "Kinds.fault" sKinds_fault f fd) (T : Bl mg) (KX : KC K C) (OI : OwnM P w K mg base C "__contains__" 1 ["self", "thing"] (spKIn C) gI fdI) (Sq : HasF P w K mg base "is_sequence" 1 ["thing"] spSeq) (Lb : HasF P w K mg base "is_label" 1 ["thing"] spLabel) :
    FnOk P w K mg base CX0 2 f fd ["self", "deed"] (spFault C) := by
  obtain ⟨f1, fd1, Sq⟩ := Sq; obtain ⟨f2, fd2, Lb⟩ := Lb
  refine F.ok scFault (fun vs H Q E h => ?_) (fun cdv A outer s H vs Q E hr h => ?_)
  · obtain ⟨p, y, r, ks, rfl, _⟩ := h
    rfl
  · obtain ⟨p, y, r, ks, rfl, hk, hy, kb, k⟩ := h
    have hu := hu_of hr
    refine ⟨_, (C8.pss_cut (ps_if (PW.pt (pw_or (pt_not (pt_val (pe_call Sq.G hr (by rfl) Sq.m Sq.kp Sq.b .nil pass0 (pa_cons (pv 1) pa_nil)))) (pw_or1 (pt_cmpR op_eq (pe_callB call_len_seq (by rfl) T.len PySem.boot_len (pa_cons (pv 1) pa_nil)) pe_int (nomark _))))) (pss_one (ps_ret pe_str)) pss_nil)
    (pss_cons (ps_if (pt_cmpR (op_notInOwn OI.M.at_ OI.M.fn OI.raw hr pass0) (pe_ix ix_seq (pv 1) pe_int (fun _ _ => rfl)) (pv 0) (by rfl)) (pss_one (ps_ret pe_str)) pss_nil)
    (pss_cons (ps_if (pt_cmpR op_ne (pe_callB call_len_seq (by rfl) T.len PySem.boot_len (pa_cons (pv 1) pa_nil)) (pe_op op_add pe_int (pe_dget hu (pe_fld (pv 0) rfl) (pe_ix ix_seq (pv 1) pe_int (fun _ _ => rfl)) (fun _ _ => rfl))) (nomark _)) (pss_one (ps_ret pe_str)) pss_nil)
    (C8.pss_cut (ps_for PassesOwn.never rfl (pi_or (pi_list (pe_slice sl_list (pv 1) (po_some pe_int) po_none)) (pi_tup (pe_slice sl_tup (pv 1) (po_some pe_int) po_none))) (pg_name (i := 2) scFault.nd rfl (Or.inl rfl))
        (pss_one (ps_if (pt_not (pt_val (pe_call Lb.G hr (by rfl) Lb.m Lb.kp Lb.b .nil pass0 (pa_cons (pv 2) pa_nil)))) (pss_one (ps_ret pe_str)) pss_nil)))
    (pss_one (ps_ret pe_non)))))), ?_⟩
    obtain ⟨dx, fs, r0, n', d, ts, h1, h2, h3, h4, h5, h6, h7, h8, h9, h10, _⟩ := hk.get (K := K)
    refine ⟨fun σ H1 => ∃ (b : Addr) (x : V) (xs : List V), y = .ref b ∧ r = some (x :: xs) ∧ σ = [some (.ref p), some (.ref b), none] ∧ Same H H1 ∧ (H1 b = some (.lst (x :: xs)) ∨ H1 b = some (.tup (x :: xs))) ∧ (∀ z ∈ x :: xs, ∃ n, Thing H1 z n) ∧ xs.length ≤ 900, ?_, ?_⟩
    · obtain ⟨n, kd', kn⟩ := hy.kd
      refine ⟨_, rfl, y, n, rfl, kd', fun H1 s1 => ⟨_, rfl, ?_⟩⟩
      have hy1 := hy.keep s1
      cases e1 : seqV n with
      | false => exact iteT (by have e := kn e1; subst e; exact k _ s1)
      | true =>
        refine iteF ?_
        cases hy1 with
        | lst h t l =>
          rename_i b xs
          refine ⟨_, rfl, _, _, rfl, .inl (SqL.of h), rfl, _, rfl, ?_⟩
          cases xs with
          | nil => exact iteT (k _ s1)
          | cons x xs =>
            rw [decide_eq_false (fun e => by have := V.int.inj e; simp at this; omega)]
            refine iteF ⟨b, x, xs, rfl, rfl, rfl, s1, .inl h, t, by simp at l; omega⟩
        | tup h t l =>
          rename_i b xs
          refine ⟨_, rfl, _, _, rfl, .inr (SqT.of h), rfl, _, rfl, ?_⟩
          cases xs with
          | nil => exact iteT (k _ s1)
          | cons x xs =>
            rw [decide_eq_false (fun e => by have := V.int.inj e; simp at this; omega)]
            refine iteF ⟨b, x, xs, rfl, rfl, rfl, s1, .inr h, t, by simp at l; omega⟩
        | oth h l =>
          rw [← (kd'.keep s1).uniq h, e1] at l
          cases l
    rintro σ H1 ⟨b, x, xs, rfl, rfl, rfl, s1, hb, ht, hl⟩
    obtain ⟨nx, tx⟩ := ht x (.head _)
    have hk1 := hk.keep s1
    have ixr : ∀ {Q' : V → Hp → Prop}, Q' x H1 → rIx K (.ref b) (.int 0) H1 Q' := fun q => by
      rcases hb with hb | hb
      · exact .inl ⟨_, _, _, _, rfl, rfl, SqL.of hb, atI0 _ _, q⟩
      · exact .inr (.inl ⟨_, _, _, _, rfl, rfl, SqT.of hb, atI0 _ _, q⟩)
    refine ⟨_, rfl, ixr ⟨_, rfl, p, dx, fs, rfl, s1 _ _ h1, p, x, nx, ks, rfl, hk1, tx.kd, _, rfl, _, rfl, ?_⟩⟩
    have e0 := kAr_in ks x
    have e2 := kAr_num ks x
    cases e1 : kNum ks x with
    | none =>
      rw [e1] at e2
      rw [e2] at e0
      rw [← e0]
      refine iteT ?_
      have q := k _ s1
      rw [show deedWord ks (some (x :: xs)) = some (Str.ofString "kind") by show (match kNum ks x with | none => _ | some k => _) = _; rw [e1]] at q
      exact q
    | some m =>
      rw [e1] at e2
      rw [e2] at e0
      rw [← e0]
      have mk : m = m ∧ 0 ≤ m ∧ m ≤ 2 := by
        refine ⟨rfl, ?_⟩
        cases x with
        | str z =>
          have e1 : (ks.find? fun q => decide (q.1 = z)).map (·.2) = some m := e1
          cases e3 : ks.find? fun q => decide (q.1 = z) with
          | none => rw [e3] at e1; cases e1
          | some q =>
            rw [e3] at e1
            have e4 : q.2 = m := Option.some.inj e1
            rw [← e4]
            exact kb q (List.mem_of_find?_eq_some e3)
        | _ => cases e1
      have word : deedWord ks (some (x :: xs)) = if ((xs.length : Nat) : Int) = m then (if xs.all labV then none else some (Str.ofString "person")) else some (Str.ofString "arity") := by
        show (match kNum ks x with | none => _ | some k => _) = _
        rw [e1]
      rw [word] at k
      refine iteF ⟨_, rfl, b, x :: xs, rfl, ?_, ?_⟩
      · rcases hb with hb | hb
        · exact .inl (SqL.of hb)
        · exact .inr (SqT.of hb)
      have get : DGet H1 d x (some (V.int m)) := by
        cases x with
        | str z =>
          have e2 : valV (kvOf (vv ks)) (Sum.inr z : Key) = some (V.int m) := e2
          rw [← e2]
          exact DGet.k (k := Sum.inr z) (s1 _ _ h10)
        | _ => cases e1
      refine ⟨_, rfl, p, C, dx, fs, _, rfl, s1 _ _ h1, KX.cl, KX.nA, h4, _, rfl, ?_⟩
      refine ixr ⟨d, V.int m, rfl, get, ?_⟩
      refine ⟨_, _, rfl, rfl, rfl, _, rfl, ?_⟩
      have eqn : (V.int (((x :: xs).length : Nat) : Int) = V.int (1 + m)) ↔ ((xs.length : Nat) : Int) = m := by
        constructor
        · intro e
          have := V.int.inj e
          simp at this
          omega
        · intro e
          simp
          omega
      refine ite2 (fun q1 => ?_) (fun q1 => ?_)
      · have n1 : ¬ ((xs.length : Nat) : Int) = m := fun e => by rw [decide_eq_true (eqn.mpr e)] at q1; cases q1
        have q := k _ s1
        rw [if_neg n1] at q
        exact q
      have e3 : ((xs.length : Nat) : Int) = m := by
        by_cases e : ((xs.length : Nat) : Int) = m
        · exact e
        · rw [decide_eq_false (fun h => e (eqn.mp h))] at q1
          exact absurd rfl q1
      rw [if_pos e3] at k
      -- the persons
      refine ⟨fun σ H2 => xs.all labV = true ∧ Same H H2, ?_, ?_⟩
      · rcases hb with hb | hb
        · refine .inl ⟨_, rfl, _, rfl, b, _, rfl, SqL.of hb, fun q hq => ⟨q, rfl, ⟨_, SqL.of upd_same⟩, for_list (K := K) (a := q) (xs := cutV (x :: xs) (some 1) none) (fun i σ H2 => ∃ v, σ = [some (.ref p), some (.ref b), v] ∧ Same (upd H1 q (.lst (cutV (x :: xs) (some 1) none))) H2 ∧ (xs.take i).all labV = true)
            ⟨none, rfl, Same.refl _, rfl⟩ (fun i σ H2 _ ⟨_, _, s2, _⟩ => SqL.of (s2 _ _ upd_same)) ?_ ?_⟩⟩
          · rintro i z σ H2 hi ⟨v, rfl, s2, al⟩
            rw [cut1] at hi
            have s3 : Same H1 H2 := (sameUpd (Same.refl _) hq).trans s2
            obtain ⟨n, tz⟩ := ht z (.tail _ (List.mem_of_getElem? hi))
            refine ⟨_, rfl, z, n, rfl, (tz.keep s3).kd, (fun y e => Nat.le_of_lt (small1000 (by have := (tz.fine y e).2; omega))), _, rfl, ?_⟩
            cases e5 : labV z with
            | false =>
              refine iteT ?_
              have q3 := k _ (s1.trans s3)
              rw [if_neg (fun h => by rw [List.all_eq_true.mp h z (List.mem_of_getElem? hi)] at e5; cases e5)] at q3
              exact q3
            | true =>
              refine iteF ⟨some z, rfl, s2, ?_⟩
              rw [take_succ_of hi, List.all_append, al]
              simp [e5]
          · rintro σ H2 ⟨v, rfl, s2, al⟩
            rw [cut1, List.take_length] at al
            exact ⟨al, s1.trans ((sameUpd (Same.refl _) hq).trans s2)⟩
        · refine .inr ⟨_, rfl, _, rfl, b, _, rfl, SqT.of hb, whole x xs, fun q hq => ⟨q, rfl, ⟨_, SqT.of upd_same⟩, for_tup (K := K) (a := q) (xs := cutV (x :: xs) (some 1) none) (fun i σ H2 => ∃ v, σ = [some (.ref p), some (.ref b), v] ∧ Same (upd H1 q (.tup (cutV (x :: xs) (some 1) none))) H2 ∧ (xs.take i).all labV = true)
            ⟨none, rfl, Same.refl _, rfl⟩ (fun i σ H2 _ ⟨_, _, s2, _⟩ => SqT.of (s2 _ _ upd_same)) ?_ ?_⟩⟩
          · rintro i z σ H2 hi ⟨v, rfl, s2, al⟩
            rw [cut1] at hi
            have s3 : Same H1 H2 := (sameUpd (Same.refl _) hq).trans s2
            obtain ⟨n, tz⟩ := ht z (.tail _ (List.mem_of_getElem? hi))
            refine ⟨_, rfl, z, n, rfl, (tz.keep s3).kd, (fun y e => Nat.le_of_lt (small1000 (by have := (tz.fine y e).2; omega))), _, rfl, ?_⟩
            cases e5 : labV z with
            | false =>
              refine iteT ?_
              have q3 := k _ (s1.trans s3)
              rw [if_neg (fun h => by rw [List.all_eq_true.mp h z (List.mem_of_getElem? hi)] at e5; cases e5)] at q3
              exact q3
            | true =>
              refine iteF ⟨some z, rfl, s2, ?_⟩
              rw [take_succ_of hi, List.all_append, al]
              simp [e5]
          · rintro σ H2 ⟨v, rfl, s2, al⟩
            rw [cut1, List.take_length] at al
            exact ⟨al, s1.trans ((sameUpd (Same.refl _) hq).trans s2)⟩
      rintro σ H2 ⟨al, s2⟩
      have q := k _ s2
      rw [al] at q
      exact q
end
end Kx

set_option maxHeartbeats 4000000
namespace Kx
open PySem L2
/-- the heap but for the hand -/
def wo (p : Addr) (H : Hp) : Hp := fun b => if b = p then none else H b
theorem wo_same {H : Hp} {p : Addr} : Same (wo p H) H := fun b o e => by
  unfold wo at e
  by_cases h : b = p
  · rw [if_pos h] at e; cases e
  · rw [if_neg h] at e; exact e
theorem wo_ne {H : Hp} {p b : Addr} (h : b ≠ p) : wo p H b = H b := if_neg h
theorem wo_keep {H H' : Hp} {p : Addr} (k : Keep H H' p) : Same (wo p H) (wo p H') := fun b o e => by
  unfold wo at e ⊢
  by_cases h : b = p
  · rw [if_pos h] at e; cases e
  · rw [if_neg h] at e ⊢; exact k b o e h
theorem wo_at {H : Hp} {p b : Addr} {o : HO} (h : H b = some o) (n : b ≠ p) : wo p H b = some o := by rw [wo_ne n]; exact h
theorem wo_mono {H H' : Hp} {p : Addr} (s : Same H H') : Same (wo p H) (wo p H') := wo_keep fun b o e _ => s b o e
/-- which row it is -/
theorem Dd.row {H : Hp} {n : Nat} {y : V} {d : PyData} (h : Dd H n y d) : ∃ r, RowIs H y r := by
  have one : ∀ {m : Nat} {xs : List V} {ds : List PyData}, xs.length = ds.length → (∀ (i : Nat) (x : V) (d : PyData), xs[i]? = some x → ds[i]? = some d → Dd H m x d) → (∃ a b t u, xs = [a, b] ∧ Thing H a t ∧ Thing H b u) ∨ xs.length ≠ 2 := fun {m xs ds} e f => by
    match xs, ds, e with
    | [], _, _ => exact .inr (by simp)
    | [_], _, _ => exact .inr (by simp)
    | _ :: _ :: _ :: _, _, _ => exact .inr (by simp)
    | [a, b], [da, db], _ =>
      obtain ⟨t, ht⟩ := (f 0 a da rfl rfl).thing
      obtain ⟨u, hu⟩ := (f 1 b db rfl rfl).thing
      exact .inl ⟨a, b, t, u, rfl, ht, hu⟩
    | [_, _], [], e => cases e
    | [_, _], [_], e => cases e
    | [_, _], _ :: _ :: _ :: _, e => cases e
  cases h with
  | non => exact ⟨_, .oth .non rfl⟩
  | bl b => exact ⟨_, .oth (.bl b) rfl⟩
  | int i h => exact ⟨_, .oth (.int i) rfl⟩
  | str z h => exact ⟨_, .oth (.str z) rfl⟩
  | lst h l e f =>
    rcases one e f with ⟨a, b, t, u, rfl, ht, hu⟩ | q
    · exact ⟨_, .lst h ht hu⟩
    · exact ⟨_, .lstN h q⟩
  | tup h l e f =>
    rcases one e f with ⟨a, b, t, u, rfl, ht, hu⟩ | q
    · exact ⟨_, .tup h ht hu⟩
    · exact ⟨_, .tupN h q⟩
  | dct h hz hv => exact ⟨_, .oth (.dct _ _ h) rfl⟩
theorem allR_of {H : Hp} {m : Nat} : ∀ {xs : List V} {ds : List PyData}, xs.length = ds.length → (∀ (i : Nat) (x : V) (d : PyData), xs[i]? = some x → ds[i]? = some d → Dd H m x d) → ∃ rs, AllR H xs rs
  | [], _, _, _ => ⟨[], rfl, fun i y r e => by cases e⟩
  | x :: xs, [], e, _ => by cases e
  | x :: xs, d :: ds, e, f => by
    obtain ⟨r, hr⟩ := (f 0 x d rfl rfl).row
    obtain ⟨rs, h1, h2⟩ := allR_of (xs := xs) (ds := ds) (Nat.succ.inj e) fun i x d e1 e2 => f (i + 1) x d e1 e2
    refine ⟨r :: rs, congrArg Nat.succ h1, fun i y q e1 e2 => ?_⟩
    cases i with
    | zero => cases e1; cases e2; exact hr
    | succ i => exact h2 i y q e1 e2
theorem Dd.rows {H : Hp} {n : Nat} {y : V} {d : PyData} (h : Dd H n y d) : ∃ r, RowsIs H y r := by
  cases h with
  | non => exact ⟨_, .oth .non rfl⟩
  | bl b => exact ⟨_, .oth (.bl b) rfl⟩
  | int i h => exact ⟨_, .oth (.int i) rfl⟩
  | str z h => exact ⟨_, .oth (.str z) rfl⟩
  | lst h l e f => obtain ⟨rs, q⟩ := allR_of e f; exact ⟨_, .lst h q (by omega)⟩
  | tup h l e f => obtain ⟨rs, q⟩ := allR_of e f; exact ⟨_, .tup h q (by omega)⟩
  | dct h hz hv => exact ⟨_, .oth (.dct _ _ h) rfl⟩
theorem things_of {H : Hp} {m : Nat} {xs : List V} {ds : List PyData} (e : xs.length = ds.length) (f : ∀ (i : Nat) (x : V) (d : PyData), xs[i]? = some x → ds[i]? = some d → Dd H m x d) : ∀ x ∈ xs, ∃ n, Thing H x n := fun x hx => by
  obtain ⟨i, hi⟩ := List.mem_iff_getElem?.mp hx
  have lt : i < ds.length := by rw [← e]; exact (List.getElem?_eq_some_iff.mp hi).1
  exact (f i x _ hi (List.getElem?_eq_getElem lt)).thing
theorem Dd.deed {H : Hp} {n : Nat} {y : V} {d : PyData} (h : Dd H n y d) : ∃ r, DeedIs H y r := by
  cases h with
  | non => exact ⟨_, .oth .non rfl⟩
  | bl b => exact ⟨_, .oth (.bl b) rfl⟩
  | int i h => exact ⟨_, .oth (.int i) rfl⟩
  | str z h => exact ⟨_, .oth (.str z) rfl⟩
  | lst h l e f => exact ⟨_, .lst h (things_of e f) (by omega)⟩
  | tup h l e f => exact ⟨_, .tup h (things_of e f) (by omega)⟩
  | dct h hz hv => exact ⟨_, .oth (.dct _ _ h) rfl⟩
theorem inV_strs (z : Str) : ∀ ys : List Str, inV (.str z) (ys.map V.str) = decide (z ∈ ys)
  | [] => rfl
  | y :: ys => by
    have ih := inV_strs z ys
    show (eqV (.str y) (.str z) || inV (.str z) (ys.map V.str)) = _
    rw [ih]
    by_cases e : z = y
    · subst e
      simp [eqV]
    · have e' : ¬ y = z := fun q => e q.symm
      simp [eqV, e, e']
end Kx

set_option maxHeartbeats 4000000
namespace Kx
open PySem L2
/-- x is the pair q -/
def PairIs (H : Hp) (x : V) (q : Str × Int) : Prop := ∃ t, x = .ref t ∧ (H t = some (.lst [.str q.1, .int q.2]) ∨ H t = some (.tup [.str q.1, .int q.2]))
theorem PairIs.keep {H H' : Hp} {x : V} {q : Str × Int} (h : PairIs H x q) (s : Same H H') : PairIs H' x q := by
  obtain ⟨t, e, h⟩ := h
  exact ⟨t, e, h.imp (s _ _) (s _ _)⟩
/-- xs are the pairs ks -/
def ItemsAt (H : Hp) (xs : List V) (ks : List (Str × Int)) : Prop := xs.length = ks.length ∧ ∀ (i : Nat) (x : V) (q : Str × Int), xs[i]? = some x → ks[i]? = some q → PairIs H x q
theorem ItemsAt.keep {H H' : Hp} {xs : List V} {ks : List (Str × Int)} (h : ItemsAt H xs ks) (s : Same H H') : ItemsAt H' xs ks := ⟨h.1, fun i x q e1 e2 => (h.2 i x q e1 e2).keep s⟩
theorem ItemsAt.add {H : Hp} {xs : List V} {ks : List (Str × Int)} {x : V} {q : Str × Int} (h : ItemsAt H xs ks) (hx : PairIs H x q) : ItemsAt H (xs ++ [x]) (ks ++ [q]) := by
  refine ⟨by simp [h.1], fun i y r e1 e2 => ?_⟩
  by_cases lt : i < xs.length
  · rw [List.getElem?_append_left lt] at e1
    rw [List.getElem?_append_left (by rw [← h.1]; exact lt)] at e2
    exact h.2 i y r e1 e2
  · have e : i = xs.length := by
      have := (List.getElem?_eq_some_iff.mp e1).1
      simp at this
      omega
    subst e
    rw [List.getElem?_append_right (by omega), Nat.sub_self] at e1
    rw [h.1, List.getElem?_append_right (by omega), Nat.sub_self] at e2
    cases e1
    cases e2
    exact hx
def GoodL (H : Hp) (b : Addr) (ks : List (Str × Int)) : Prop := ∃ xs, H b = some (.lst xs) ∧ ItemsAt H xs ks
theorem GoodL.keep {H H' : Hp} {b : Addr} {ks : List (Str × Int)} (h : GoodL H b ks) (s : Same H H') : GoodL H' b ks := by
  obtain ⟨xs, h1, h2⟩ := h
  exact ⟨xs, s _ _ h1, h2.keep s⟩
structure GoodK (ks : List (Str × Int)) : Prop where
  lo : 1 ≤ ks.length
  hi : ks.length ≤ 6
  each : ∀ q ∈ ks, isLab q.1 = true ∧ ¬ q.1 = Str.ofString "year" ∧ 0 ≤ q.2 ∧ q.2 ≤ 2
  nd : (ks.map (·.1)).Nodup
def lastOf (z : Str) : Option Nat := z.cps.toList.getLast?
theorem abcdef_at : ∀ n : Fin 6, (Str.ofString "abcdef").cps.toList[n.1]? = some (97 + n.1) := by decide +kernel
theorem abcdef_ix {i : Nat} (h : i < 6) : atI (Str.ofString "abcdef").cps.toList ((0 : Int) + i) = some (97 + i) := by
  rw [Int.zero_add]
  exact atI_nat (abcdef_at ⟨i, h⟩)
theorem lab_of {z : Str} (h1 : 1 ≤ z.length) (h2 : z.length ≤ 6) (h3 : Low z) : isLab z = true := by
  unfold isLab
  rw [decide_eq_true h1, decide_eq_true h2, Bool.true_and, Bool.true_and]
  refine List.all_eq_true.mpr fun c hc => ?_
  have := h3 c hc
  unfold isLow
  simp only [Bool.and_eq_true, decide_eq_true_eq]
  omega
theorem last_app (z : Str) (n : Nat) : lastOf (z ++ ⟨#[n]⟩) = some n := by
  unfold lastOf
  rw [cps_app]
  simp
theorem last_year : lastOf (Str.ofString "year") = some 114 := by decide +kernel
theorem nd_last : ∀ {ks : List (Str × Int)} {m : Nat}, (∀ (i : Nat) (q : Str × Int), ks[i]? = some q → lastOf q.1 = some (m + i)) → (ks.map (·.1)).Nodup
  | [], _, _ => List.nodup_nil
  | q :: ks, m, h => by
    rw [List.map_cons, List.nodup_cons]
    refine ⟨fun hm => ?_, nd_last (m := m + 1) fun i r e => by rw [h (i + 1) r e]; congr 1; omega⟩
    obtain ⟨r, hr, e⟩ := List.mem_map.mp hm
    obtain ⟨i, hi⟩ := List.mem_iff_getElem?.mp hr
    have e1 := h 0 q rfl
    have e2 := h (i + 1) r hi
    rw [e, e1] at e2
    have := Option.some.inj e2
    omega
def spLKinds : Sp := fun vs H Q _ => ∃ p q : Addr, vs = [.ref p] ∧ HandAt H p q ∧ ∀ (b : Addr) (ks : List (Str × Int)) (H' : Hp), GoodK ks → GoodL (wo p H') b ks → H b = none → HandAt H' p q → Keep H H' p → Q (.ref b) H'
section
variable {P : Program} {w : World} {K : PySem.W.Frag} {mg : Str → Option Value} {base : Heap}
theorem scLKinds : FnScope ["_law_hand_here", "_law_rows", "_law_k"] ["_law_hand_here"] (defScope sLKinds) := ⟨rfl, rfl, rfl, by decide +kernel, rfl, by decide +kernel, by decide +kernel⟩
theorem ok_lkinds {f : Addr} {fd : FuncData} (F : Fun K "_law_kinds" "_law_kinds" sLKinds f fd) (m : mg "_law_kinds" = some (.ref f)) (T : Bl mg) (D : HasF P w K mg base "_law_draw" 2 ["_law_hand_here", "_law_many"] spDraw) (W : HasF P w K mg base "_law_word" 3 ["_law_hand_here", "_law_most"] spWord) : HasF P w K mg base "_law_kinds" 4 ["_law_hand_here"] spLKinds := by
  refine ⟨f, fd, ?_, m, F.kp, F.binds fun _ _ _ _ _ _ us hl => match us, hl with | [_], _ => rfl⟩
  obtain ⟨f1, fd1, D⟩ := D; obtain ⟨f2, fd2, W⟩ := W
  refine F.ok scLKinds (fun vs H Q E h => ?_) (fun cdv A outer s H vs Q E hr h => ?_)
  · obtain ⟨a, b, rfl, _⟩ := h
    rfl
  · obtain ⟨p, q, rfl, hp, k⟩ := h
    have hr2 : Room 2 _ := hr.mono (by decide)
    refine ⟨_, (pss_cons (ps_set (i := 1) scLKinds.nd rfl (Or.inl rfl) (pe_lst pa_nil))
    (pss_cons (ps_for PassesOwn.never rfl (pi_range1 (by rfl) T.range (pa_cons (pe_op op_add pe_int (pe_call D.G hr2 (by rfl) D.m D.kp D.b .nil pass0 (pa_cons (pv 0) (pa_cons pe_int pa_nil)))) pa_nil)) (pg_name (i := 2) scLKinds.nd rfl (.inl rfl))
        (pss_one (ps_expr (pe_bm PySem.F.plainAttrs_list PySem.F.slot_list_append PySem.F.type_list_append mt_append (pv 1) (pa_cons (pe_tup (pa_cons (pe_op op_add_str (pe_call W.G hr (by rfl) W.m W.kp W.b .nil pass0 (pa_cons (pv 0) (pa_cons pe_int pa_nil))) (pe_ix ix_str pe_str (pv 2) (fun _ _ => rfl))) (pa_cons (pe_call D.G hr2 (by rfl) D.m D.kp D.b .nil pass0 (pa_cons (pv 0) (pa_cons pe_int pa_nil))) pa_nil))) pa_nil)))))
    (pss_one (ps_ret (pv 1))))), ?_⟩
    refine ⟨Nat.zero_le _, fun a ha => ?_⟩
    have nap := hp.ap ha
    have naq := hp.aq ha
    refine ⟨_, rfl, p, q, 6, rfl, hp.upd nap naq, by decide, by decide, fun z H1 z0 z1 hp1 k1 => ?_⟩
    have k1' : Keep H H1 p := fun b u e ne => k1 b u (by rw [upd_ne (ne_of_none e ha)]; exact e) ne
    refine ⟨_, _, rfl, rfl, _, rfl, by omega, by omega, for_range (n := (1 + z).toNat) (fun i σ H2 => ∃ (xs : List V) (ks : List (Str × Int)) (v : Option V), σ = [some (.ref p), some (.ref a), v] ∧ ks.length = i ∧ H2 a = some (.lst xs) ∧ ItemsAt (wo a (wo p H2)) xs ks ∧
        (∀ r ∈ ks, isLab r.1 = true ∧ 0 ≤ r.2 ∧ r.2 ≤ 2) ∧ (∀ (j : Nat) (r : Str × Int), ks[j]? = some r → lastOf r.1 = some (97 + j)) ∧ HandAt H2 p q ∧ Keep H H2 p)
      ⟨[], [], none, rfl, rfl, k1 a _ upd_same nap, ⟨rfl, fun i x r e => by cases e⟩, (fun r hr => nomatch hr), (fun j r e => by cases e), hp1, k1'⟩ ?_ ?_⟩
    · rintro i σ H2 hi ⟨xs, ks, v, rfl, hl, ha2, it, ea, la, hp2, k2⟩
      have i6 : i < 6 := by omega
      refine ⟨_, rfl, .inl ⟨rfl, _, SqL.of ha2⟩, _, rfl, p, q, 5, rfl, hp2, by decide, by decide, fun y H3 y0 y1 low hp3 k3 => ?_⟩
      have y1 : y.length ≤ 5 := y1
      refine ⟨_, rfl, _, _, _, rfl, rfl, by decide, abcdef_ix i6, _, _, rfl, rfl, (by show y.length + 1 ≤ sizeLine; exact small1000 (by omega)), ?_⟩
      refine ⟨_, rfl, p, q, 3, rfl, hp3, by decide, by decide, fun u H4 u0 u1 hp4 k4 => ?_⟩
      refine ⟨(by show 2 ≤ sizeLine; decide), fun t ht => ?_⟩
      have k5 : Keep H2 H4 p := k3.trans k4
      have ha4 : H4 a = some (.lst xs) := k5 a _ ha2 nap
      have ta : t ≠ a := (ne_of_none ha4 ht).symm
      have tp : t ≠ p := hp4.ap ht
      have len : (y ++ (⟨#[97 + i]⟩ : Str)).length = y.length + 1 := by rw [len_app]; rfl
      have it4 : ItemsAt (wo a (wo p (upd (upd H4 t (.tup [.str (y ++ ⟨#[97 + i]⟩), .int u])) a (.lst (xs ++ [.ref t]))))) xs ks := by
        refine it.keep (fun c o e => ?_)
        have ca : c ≠ a := fun h => by rw [h] at e; unfold wo at e; rw [if_pos rfl] at e; cases e
        rw [wo_ne ca] at e ⊢
        have cp : c ≠ p := fun h => by rw [h] at e; unfold wo at e; rw [if_pos rfl] at e; cases e
        rw [wo_ne cp] at e ⊢
        have e4 := k5 c o e cp
        rw [upd_ne ca, upd_ne (ne_of_none e4 ht)]
        exact e4
      have low' : Low (y ++ ⟨#[97 + i]⟩) := low.app (Low.one (by omega))
      refine ⟨a, xs, _, rfl, rfl, by rw [upd_ne ta.symm]; exact ha4, small1000 (by rw [it.1, hl]; omega), xs ++ [.ref t], ks ++ [(y ++ ⟨#[97 + i]⟩, u)], _, rfl, by simp [hl], upd_same, it4.add ⟨t, rfl, .inr ?_⟩, fun r hr => ?_, fun j r e => ?_, ?_, ?_⟩
      · rw [wo_ne ta, wo_ne tp, upd_ne ta, upd_same]
      · rcases List.mem_append.mp hr with e | e
        · exact ea r e
        · rw [List.mem_singleton.mp e]
          exact ⟨lab_of (by rw [len]; omega) (by rw [len]; omega) low', u0, by show u ≤ 2; omega⟩
      · by_cases lt : j < ks.length
        · rw [List.getElem?_append_left lt] at e
          exact la j r e
        · have ej : j = i := by
            have := (List.getElem?_eq_some_iff.mp e).1
            simp at this
            omega
          subst ej
          rw [List.getElem?_append_right (by omega), hl, Nat.sub_self] at e
          cases e
          exact last_app _ _
      · exact (hp4.upd tp (hp4.aq ht)).upd nap naq
      · refine fun c o e ne => ?_
        have e4 := k4 c o (k3 c o (k2 c o e ne) ne) ne
        rw [upd_ne (ne_of_none e ha), upd_ne (ne_of_none e4 ht)]
        exact e4
    · rintro σ H2 ⟨xs, ks, v, rfl, hl, ha2, it, ea, la, hp2, k2⟩
      refine ⟨_, rfl, k a ks H2 ⟨by omega, by omega, fun r hr => ⟨(ea r hr).1, fun e => ?_, (ea r hr).2⟩, nd_last la⟩ ⟨xs, wo_at ha2 nap, it.keep wo_same⟩ ha hp2 k2⟩
      obtain ⟨j, hj⟩ := List.mem_iff_getElem?.mp hr
      have e1 := la j r hj
      rw [e, last_year] at e1
      have := Option.some.inj e1
      have lt := (List.getElem?_eq_some_iff.mp hj).1
      omega
end
end Kx

set_option maxHeartbeats 4000000
namespace Kx
open PySem L2
abbrev Dds (H : Hp) (n : Nat) (xs : List V) (ds : List PyData) : Prop := Paired (fun x d => Dd H n x d) xs ds
theorem Dds.get {H : Hp} {n : Nat} {xs : List V} {ds : List PyData} (h : Dds H n xs ds) : ∀ (i : Nat) (x : V) (d : PyData), xs[i]? = some x → ds[i]? = some d → Dd H n x d := by
  induction h with
  | nil => intro i x d e; cases e
  | cons h t ih =>
    intro i x d e1 e2
    cases i with
    | zero => cases e1; cases e2; exact h
    | succ i => exact ih i x d e1 e2
theorem Dd.lstP {H : Hp} {n : Nat} {a : Addr} {xs : List V} {ds : List PyData} (h : H a = some (.lst xs)) (l : xs.length ≤ 32) (hs : Dds H n xs ds) : Dd H (n + 1) (.ref a) (.list ds) := .lst h l (Paired.length hs) hs.get
theorem Dd.tupP {H : Hp} {n : Nat} {a : Addr} {xs : List V} {ds : List PyData} (h : H a = some (.tup xs)) (l : xs.length ≤ 32) (hs : Dds H n xs ds) : Dd H (n + 1) (.ref a) (.tuple ds) := .tup h l (Paired.length hs) hs.get
theorem Dds.of {H : Hp} {n : Nat} : ∀ {xs : List V} {ds : List PyData}, xs.length = ds.length → (∀ (i : Nat) (x : V) (d : PyData), xs[i]? = some x → ds[i]? = some d → Dd H n x d) → Dds H n xs ds
  | [], [], _, _ => .nil
  | [], _ :: _, e, _ => by cases e
  | _ :: _, [], e, _ => by cases e
  | _ :: _, _ :: _, e, f => .cons (f 0 _ _ rfl rfl) (Dds.of (Nat.succ.inj e) fun i x d e1 e2 => f (i + 1) x d e1 e2)
theorem Dds.keep {H H' : Hp} {n : Nat} {xs : List V} {ds : List PyData} (h : Dds H n xs ds) (s : Same H H') : Dds H' n xs ds := by
  induction h with
  | nil => exact .nil
  | cons h t ih => exact .cons (h.keep s) ih
theorem Dds.up {H : Hp} {n : Nat} {xs : List V} {ds : List PyData} (h : Dds H n xs ds) : Dds H (n + 1) xs ds := by
  induction h with
  | nil => exact .nil
  | cons h t ih => exact .cons h.up ih
/-- what is new since H -/
def nw (H H' : Hp) : Hp := fun a => match H a with
  | none => H' a
  | some _ => none
theorem nw_at {H H' : Hp} {a : Addr} {o : HO} (h0 : H a = none) (h : H' a = some o) : nw H H' a = some o := by
  unfold nw
  rw [h0]
  exact h
theorem nw_get {H H' : Hp} {a : Addr} {o : HO} (h : nw H H' a = some o) : H a = none ∧ H' a = some o := by
  unfold nw at h
  cases e : H a with
  | none => rw [e] at h; exact ⟨rfl, h⟩
  | some u => rw [e] at h; cases h
theorem nw_wo {H H' : Hp} {p : Addr} {o : HO} (hp : H p = some o) : Same (nw H H') (wo p H') := fun a u e => by
  obtain ⟨e0, e1⟩ := nw_get e
  exact wo_at e1 fun h => by rw [h, hp] at e0; cases e0
def spOdd2 : Sp := fun vs H Q _ => ∃ p q : Addr, vs = [.ref p] ∧ HandAt H p q ∧ ∀ (x : V) (d : PyData) (H' : Hp), Dd (nw H H') 1 x d → HandAt H' p q → Keep H H' p → Q x H'
section
variable {P : Program} {w : World} {K : PySem.W.Frag} {mg : Str → Option Value} {base : Heap}
theorem scOdd : FnScope ["_law_hand_here", "_law_word_here"] ["_law_hand_here"] (defScope sOdd) := ⟨rfl, rfl, rfl, by decide +kernel, rfl, by decide +kernel, by decide +kernel⟩
theorem ok_odd2 {f : Addr} {fd : FuncData} (F : Fun K "_law_odd" "_law_odd" sOdd f fd) (m : mg "_law_odd" = some (.ref f)) (W : HasF P w K mg base "_law_word" 3 ["_law_hand_here", "_law_most"] spWord) (O : HasF P w K mg base "_law_one" 3 ["_law_hand_here", "_law_rows"] spOne) : HasF P w K mg base "_law_odd" 4 ["_law_hand_here"] spOdd2 := by
  refine ⟨f, fd, ?_, m, F.kp, F.binds fun _ _ _ _ _ _ us hl => match us, hl with | [_], _ => rfl⟩
  obtain ⟨f2, fd2, W⟩ := W; obtain ⟨f3, fd3, O⟩ := O
  refine F.ok scOdd (fun vs H Q E h => ?_) (fun cdv A outer s H vs Q E hr h => ?_)
  · obtain ⟨a, b, rfl, _⟩ := h
    rfl
  · obtain ⟨p, q, rfl, hp, k⟩ := h
    refine ⟨_, pss_cons (ps_set (i := 1) scOdd.nd rfl (Or.inl rfl) (pe_call W.G hr (by rfl) W.m W.kp W.b .nil pass0 (pa_cons (pv 0) (pa_cons pe_int pa_nil))))
      (pss_one (ps_ret (pe_call O.G hr (by rfl) O.m O.kp O.b .nil pass0 (pa_cons (pv 0) (pa_cons (pe_lst (pa_cons pe_non (pa_cons pe_int (pa_cons pe_bl (pa_cons pe_str (pa_cons (pe_upper (pv 1)) (pa_cons (pe_op op_add_str (pv 1) pe_str) (pa_cons (pe_op op_add_str (pv 1) pe_str) (pa_cons (pe_tup (pa_cons (pv 1) pa_nil)) (pa_cons (pe_lst (pa_cons (pv 1) pa_nil)) (pa_cons (pe_un un_neg pe_int) (pa_cons (pe_op op_add_str (pv 1) pe_str) (pa_cons (pv 1) (pa_cons (pe_disp (pps_cons (pv 1) (pv 1) pps_nil) (by rfl) (by rfl) (fun z => by cases z) (by decide)) pa_nil)))))))))))))) pa_nil))))), ?_⟩
    refine ⟨_, rfl, p, q, 5, rfl, hp, by decide, by decide, fun z H1 z0 z1 low hp1 k1 => ?_⟩
    have z1 : z.length ≤ 5 := z1
    have add : ∀ t : Str, t.length ≤ 20 → z.length + t.length ≤ sizeLine := fun t ht => Nat.le_of_lt (small1000 (by omega))
    refine ⟨_, rfl, _, rfl, ⟨_, rfl⟩, _, rfl, rfl, by omega, _, rfl, _, _, rfl, rfl, add _ (by decide +kernel), _, rfl, _, _, rfl, rfl, add _ (by decide +kernel), _, rfl, (by show 1 ≤ sizeLine; decide), fun t ht => ?_⟩
    refine ⟨_, rfl, (by show 1 ≤ sizeLine; decide), fun l hl => ?_⟩
    refine ⟨_, rfl, _, rfl, _, _, rfl, rfl, add _ (by decide +kernel), _, rfl, fun d hd => ?_⟩
    refine ⟨_, rfl, _, rfl, upd_same, [(Sum.inr z, .str z)], rfl, (by show 1 ≤ 15; decide), (by show 13 ≤ sizeLine; decide), fun r hr => ?_⟩
    rw [upd_upd] at hr ⊢
    obtain ⟨hl0, lt⟩ := none2 hl
    obtain ⟨hd1, dl⟩ := none2 hd
    obtain ⟨hd0, dt⟩ := none2 hd1
    obtain ⟨hr2, rd⟩ := none2 hr
    obtain ⟨hr1, rl⟩ := none2 hr2
    obtain ⟨hr0, rt⟩ := none2 hr1
    have back : ∀ a, H1 a = none → H a = none := fun a h => by
      cases e : H a with
      | none => rfl
      | some o => exact absurd h (by rw [k1 a o e (hp1.ap h)]; exact fun z => nomatch z)
    refine ⟨p, q, r, _, rfl, (((hp1.upd (hp1.ap ht) (hp1.aq ht)).upd (hp1.ap hl0) (hp1.aq hl0)).upd (hp1.ap hd0) (hp1.aq hd0)).upd (hp1.ap hr0) (hp1.aq hr0), upd_same, hp1.ap hr0, (by show 0 < 13; decide), (by show 13 ≤ 1000; decide), fun x H5 hx hp5 k5 => ?_⟩
    have kk : Keep H H5 p := (keepUpd (keepUpd (keepUpd (keepUpd k1 (back t ht)) (back l hl0)) (back d hd0)) (back r hr0)).trans k5
    have at_t : H5 t = some (.tup [.str z]) := k5 t _ (by rw [upd_ne rt.symm, upd_ne dt.symm, upd_ne lt.symm, upd_same]) (hp1.ap ht)
    have at_l : H5 l = some (.lst [.str z]) := k5 l _ (by rw [upd_ne rl.symm, upd_ne dl.symm, upd_same]) (hp1.ap hl0)
    have at_d : H5 d = some (.dK (mergeK [] [(Sum.inr z, .str z)])) := k5 d _ (by rw [upd_ne rd.symm, upd_same]) (hp1.ap hd0)
    have fz : Fine z := fine_low low (by omega)
    have pt : t ≠ p := hp1.ap ht
    have pl : l ≠ p := hp1.ap hl0
    have pd : d ≠ p := hp1.ap hd0
    simp only [List.mem_cons, List.not_mem_nil, or_false] at hx
    rcases hx with e | e | e | e | e | e | e | e | e | e | e | e | e <;> subst e
    · exact k _ _ _ .non hp5 kk
    · exact k _ _ _ (.int _ (by decide)) hp5 kk
    · exact k _ _ _ (.bl _) hp5 kk
    · exact k _ _ _ (.str _ ⟨by decide +kernel, by decide +kernel⟩) hp5 kk
    · exact k _ _ _ (.str _ (fine_up low (by omega))) hp5 kk
    · exact k _ _ _ (.str _ (fine_app fz (by omega) (by decide +kernel) (by decide +kernel))) hp5 kk
    · exact k _ _ _ (.str _ (fine_app fz (by omega) (by decide +kernel) (by decide +kernel))) hp5 kk
    · exact k _ _ _ (Dd.tupP (nw_at (back t ht) at_t) (by show 1 ≤ 32; decide) (.cons (.str z fz) .nil)) hp5 kk
    · exact k _ _ _ (Dd.lstP (nw_at (back l hl0) at_l) (by show 1 ≤ 32; decide) (.cons (.str z fz) .nil)) hp5 kk
    · exact k _ _ _ (.int _ (by decide)) hp5 kk
    · exact k _ _ _ (.str _ (fine_app fz (by omega) (by decide +kernel) (by decide +kernel))) hp5 kk
    · exact k _ _ _ (.str _ fz) hp5 kk
    · exact k _ _ _ (.dct (nw_at (back d hd0) at_d) fz (.str z fz)) hp5 kk
end
end Kx

set_option maxHeartbeats 4000000
namespace Kx
open PySem PySem.Spec PySem.Calls PyProof.Rows PySem.W
section
variable {prog : Program} {w : World} {A : Around} {E : Value → Shared → Prop} {s : Shared} {K : Frag} {x D : Addr} {ox : Obj}
theorem findObj_dataO {C : Addr} {od : Option Obj} {name : Str} {a g : Value} (hc : (clsIn K C).isSome = true) (ha : findIn K (.ref C) name = some (some a)) (hg : specialIn K a "__get__" = some (some g)) (ht : takesIn K a = some true) : findObj K C od name = some (.bind g a) := by
  obtain ⟨cd, hc⟩ := Option.isSome_iff_exists.mp hc
  unfold findObj
  rw [hc, Option.bind_some, ha, Option.bind_some]
  simp [hg, ht]
theorem kin_classO {od : Option Obj} {Q : Option Value → Shared → Prop} (hga : findIn K (.ref D) "__getattribute__" = some (some (.builtin "BaseException.__getattribute__"))) (hgt : findIn K (.ref D) "__getattr__" = some none) (hsub : subIn K (.ref D) (.type "BaseException") = some true)
    (hdct : hasDictIn K D = true) (ha : findIn K (.ref D) "__class__" = some (some (.builtin "object.__class__")))
    (hn : specialIn K (.builtin "object.__class__") "__get__" = some (some (.builtin "getset_descriptor.__get__"))) (htk : takesIn K (.builtin "object.__class__") = some true) (hm : mroIn K D (.type "object") = some true)
    (X : K.In s.heap) (I : InstAt s.heap x ox D od) (h : Q (some (.ref D)) { s with toks := s.toks + 1 }) : wpAny (model prog w) A (getAttr? (.ref x) "__class__") Q E s := by
  have hf : findObj K D od "__class__" = some (.bind (.builtin "getset_descriptor.__get__") (.builtin "object.__class__")) := findObj_dataO (by obtain ⟨cd, hc, _⟩ := any_some hdct; rw [hc]; rfl) ha hn htk
  obtain ⟨hp, g, d, t, os⟩ := s
  have L0 := I.type (M := model prog w)
  have L1 := looks_findIn (M := model prog w) X hga
  have L2 := looks_findIn (M := model prog w) X hgt
  have L3 := looks_find (M := model prog w) X I hf
  have sub : Looks (model prog w) hp (isInstance (.ref x) (.type "BaseException")) true := L0.andThen (looks_subIn X hsub)
  have hx0 : (false && onTheHeap (Value.builtin "BaseException.__getattribute__")) = false := rfl
  have hx2 : (Value.builtin "BaseException.__getattribute__" == Value.builtin "object.__getattribute__") = false := by decide +kernel
  have hx1 : (onTheHeap (Value.ref D) && Value.builtin "BaseException.__getattribute__" == Value.builtin "object.__getattribute__") = false := by rw [hx2]; rfl
  unfold getAttr? getAttrBy? getAttrBy
  refine wpAny_bind (wpAny_mkText (wpAny_bind (wpAny_attempt (wpAny_holding (wpAny_bind (L0.at (wpAny_bind (L1.at ?_))))))))
  show wpAny _ _ (if (onTheHeap (Value.ref D) && Value.builtin "BaseException.__getattribute__" == Value.builtin "object.__getattribute__") = true then _ else _) _ _ _
  rw [hx1, if_neg Bool.false_ne_true]
  unfold getAttrByItsOwn hookBefore
  refine wpAny_bind ?_
  rw [if_pos (show onTheHeap (Value.ref D) = true from rfl)]
  refine L2.at ?_
  refine wpAny_bind (wpAny_attempt (wpAny_holding ?_))
  unfold callGetattribute
  rw [hx0, if_neg Bool.false_ne_true]
  unfold boundAndCalled
  rw [PySem.F.excAttr_ValueError.ga.bind (.ref x)]
  refine wpAny_bind (wpAny_pure ?_)
  show wpAny _ _ (call (.builtin "BaseException.__getattribute__") [.ref x, .str "__class__" t]) _ _ _
  refine wpAny_call (codeAny_call_builtin PySem.F.excAttr_ValueError.ga.plain PySem.F.entry_bexc_ga ?_)
  refine @check_slot (model prog w) _ _ ⟨hp, g, d, t + 1, os⟩ "BaseException.__getattribute__" "BaseException" "__getattribute__" (.ref x) [.str "__class__" t] [] _ (by decide +kernel) (by decide +kernel) sub (PySem.F.args_bexc_ga (.ref x) (.str "__class__" t)) ?_
  unfold Builtin.«object.__getattribute__»
  refine wpAny_bind (wpAny_of_eq (a := ((Value.ref x : Value), [Value.str "__class__" t])) (by first | rfl | (simp only [slotArgs]; rfl)) ?_)
  refine wpAny_bind (wpAny_pure (wpAny_bind (L0.at (wpAny_bind (L3.at ?_)))))
  show wpAny _ _ (holding [Value.builtin "object.__class__"] (call (.builtin "getset_descriptor.__get__") [.builtin "object.__class__", .ref x, .ref D]) >>= ret) _ _ _
  refine wpAny_bind (wpAny_holding (wpAny_call (class_get (s := ⟨hp, g, d, t + 1, os⟩) (ox := ox) (od := od) X I hm ?_)))
  refine wpAny_pure ?_
  show wpAny _ _ (handedOut (.ref D)) _ _ _
  rw [handedOut_of (v := .ref D) rfl]
  first
    | exact wpAny_pure (wpAny_pure h)
    | exact wpAny_pure h
    | exact wpAny_pure (wpAny_bind (wpAny_pure (wpAny_pure h)))
theorem kitx_excO {od : Option Obj} (hga : findIn K (.ref D) "__getattribute__" = some (some (.builtin "BaseException.__getattribute__"))) (hgt : findIn K (.ref D) "__getattr__" = some none) (hsub : subIn K (.ref D) (.type "BaseException") = some true) (hdct : hasDictIn K D = true) (ha : findIn K (.ref D) "__class__" = some (some (.builtin "object.__class__")))
    (hn : specialIn K (.builtin "object.__class__") "__get__" = some (some (.builtin "getset_descriptor.__get__"))) (htk : takesIn K (.builtin "object.__class__") = some true) (hm : mroIn K D (.type "object") = some true) :
    KitX K (.ref x) (.ref D) (fun h => InstAt h x ox D od) where
  ty := fun _ _ _ I => I.type
  it := fun _ _ X _ => by
    obtain ⟨cdD, hcD, _⟩ := any_some hdct
    unfold clsIn at hcD
    split at hcD
    · rename_i c' d' cd' sl' ho
      intro A' Q' E' s' k q
      unfold isType loadHead
      exact wpAny_bind (wpAny_loadPart (k _ _ (X _ _ ho)) (wpAny_pure q))
    · cases hcD
  ne := fun h tp dd its n sl X htp => by
    obtain ⟨cdD, hcD, _⟩ := any_some hdct
    refine Bool.eq_false_iff.mpr fun q => ?_
    have e : D = tp := Value.ref.inj (beq_iff_eq.mp q)
    subst e
    unfold clsIn at hcD
    split at hcD
    · rename_i c' d' cd' sl' ho
      have z := (X _ _ ho).symm.trans htp
      cases z
    · cases hcD
  ca := fun X I k => kin_classO hga hgt hsub hdct ha hn htk hm X I k
end
end Kx
namespace Kx
open PySem PySem.Spec PyProof.Rows L2
/-- isinstance(e, c), e a caught error that has fields -/
def rIsEd (K : PySem.W.Frag) (a : Addr) (cls : Value) (d : Option Addr) (D : Addr) : List V → Hp → VK → Prop := fun xs H Q => cls = .ref D ∧ (d = none ∨ ∃ (dd : Addr) (fs : List (Str × V)), d = some dd ∧ H dd = some (.xd fs)) ∧ rIsE K D a xs H Q
theorem call_isEd {X : Cx} {K : PySem.W.Frag} {a D : Addr} {oe : Obj} {cls : Value} {d : Option Addr} {pn : List (Addr × Obj)} (hK : X.K = K) (C : ExcC K D) (hz : Zc cls d oe) (hf : ∃ vs, oe.data = .fields vs) : CallR (X.suite a ((a, oe) :: pn)) (.builtin "isinstance") (rIsEd K a cls d D) := by
  subst hK
  intro pins s σ H xs us Q I r h
  obtain ⟨hcl, hd, c, cv, b, rfl, hcv, e, q⟩ := h
  subst hcl
  cases r with
  | cons rx rr =>
    cases rr with
    | cons rt rr =>
      cases rr
      cases rx
      have ec := hcv _ rt
      subst ec
      obtain ⟨hget, _⟩ := I.pin (a, oe) (List.mem_append.mpr (.inl List.mem_cons_self))
      obtain ⟨vs, hv⟩ := hf
      have J : ∃ od, PySem.W.InstAt s.heap a oe D od := by
        rcases hd with hd | ⟨dd, fs, hd, he⟩
        · subst hd
          obtain ⟨oc, od, oda, osl⟩ := oe
          obtain ⟨h1, h2⟩ := hz
          dsimp only at h1 h2 hv
          subst h1 h2 hv
          exact ⟨none, hget, rfl, rfl, trivial⟩
        · subst hd
          obtain ⟨mA, hns, hr⟩ := (show ObjOk X.prog X.w H s.heap dd (.xd fs) from I.hok dd _ he)
          obtain ⟨od, ho, hl⟩ := lookIn_ns hns
          exact ⟨some od, hget, hz.1, by unfold PySem.W.notCls; rw [hv] <;> rfl, by rw [hz.2]; exact ho⟩
      obtain ⟨od, J⟩ := J
      exact PySem.W.kia_one (kitx_excO C.hg C.hk C.hs C.hd C.ha C.hn C.ht C.hm) I.kIn J e (fun z => nomatch z) fun tk => ⟨.bl b, H, I.kept (t' := tk) fun _ _ z => z, rfl, q⟩
end Kx

set_option maxHeartbeats 4000000
namespace Kx
open PySem PySem.Spec PyProof.Rows L2
/-! two lists of whatever things: of other lengths, or with the very same things at each place -/
theorem eqV_self : ∀ x : V, flatV x = true → eqV x x = true
  | .non, _ => rfl
  | .bl b, _ => by simp [eqV]
  | .int i, _ => by simp [eqV]
  | .str z, _ => by simp [eqV]
section
variable {X : Cx}
def rNeL (K : PySem.W.Frag) : R2 := fun x y H Q => ∃ a b xs ys, x = .ref a ∧ y = .ref b ∧ SqL K H a xs ∧ SqL K H b ys ∧ ((xs.length ≠ ys.length ∧ Q (.bl true) H) ∨ (xs = ys ∧ (∀ z ∈ xs, flatV z = true ∨ ∃ c, z = .ref c) ∧ Q (.bl false) H))
theorem op_neL (hu : X.A.units + 64 < cLine) : OpR X (compareOp .NotEq) (rNeL X.K) := by
  intro pins s σ H x y v u Q I rx ry h
  obtain ⟨a, b, xs, ys, rfl, rfl, ha, hb, h⟩ := h
  obtain rfl : v = Value.ref a := rx
  obtain rfl : u = Value.ref b := ry
  obtain ⟨its, rv, pl, hz⟩ := I.list ha
  obtain ⟨ius, ru, pu, hw⟩ := I.list hb
  have l1 := rv.length
  have l2 := ru.length
  rcases h with ⟨ne, q⟩ | ⟨rfl, fl, q⟩
  · exact SeqAt.RcNeAt.lists_lengths pl.isList pu.isList (by simp only [List.size_toArray, bne_iff_ne, ne_eq]; omega) (by omega) X.prog X.w X.xe _ ⟨.bl true, H, I, rfl, q⟩
  · have e := SeqAt.RcNeAt.lists (e := fun _ => true) (A := X.A) pl.isList pu.isList (by simp only [List.size_toArray]; omega) (by omega) fun j h1 h2 => by
      have hj : j < xs.length := by simp only [List.size_toArray] at h1; omega
      obtain ⟨v1, e1, r1⟩ := rv.get (List.getElem?_eq_getElem hj)
      obtain ⟨v2, e2, r2⟩ := ru.get (List.getElem?_eq_getElem hj)
      have g1 : its.toArray[j] = v1 := by
        have := (List.getElem?_eq_some_iff.mp e1).2
        simpa using this
      have g2 : ius.toArray[j] = v2 := by
        have := (List.getElem?_eq_some_iff.mp e2).2
        simpa using this
      rw [g1, g2]
      rcases fl xs[j] (List.getElem_mem hj) with f | ⟨c, ec⟩
      · have z := eqAt_V (A := X.A.in1) (s := s) r1 r2 f f
        rw [eqV_self _ f] at z
        exact z
      · rw [ec] at r1 r2
        obtain rfl : v1 = Value.ref c := r1
        obtain rfl : v2 = Value.ref c := r2
        exact SeqAt.EqAt.same _
    refine e X.prog X.w X.xe _ ⟨.bl false, H, I, ?_, q⟩
    show Value.bool _ = Value.bool false
    simp
end
end Kx

set_option maxHeartbeats 4000000
namespace Kx
open PySem L2
def rLstOf (K : PySem.W.Frag) : List V → Hp → VK → Prop := fun xs H Q => ∃ p ys, xs = [.ref p] ∧ (SqL K H p ys ∨ SqT K H p ys) ∧ ∀ l, H l = none → Q (.ref l) (upd H l (.lst ys))
theorem call_lstK {X : Cx} {K : PySem.W.Frag} (h : X.K = K) : CallR X (.type "list") (rLstOf K) := by
  subst h
  exact call_list_of
theorem ix_seqK {X : Cx} {K : PySem.W.Frag} (h : X.K = K) : IxR X (rIx K) := by
  subst h
  exact ix_seq
def spLRows : Sp := fun vs H Q _ => ∃ p q : Addr, vs = [.ref p] ∧ HandAt H p q ∧ ∀ (b : Addr) (ds : List PyData) (H' : Hp), Dd (wo p H') 3 (.ref b) (.list ds) → HandAt H' p q → Keep H H' p → Q (.ref b) H'
/-- the heap but for the hand and one list more -/
def hid (b p : Addr) (H : Hp) : Hp := wo b (wo p H)
theorem hid_at {b p c : Addr} {H : Hp} {o : HO} (h : H c = some o) (n1 : c ≠ b) (n2 : c ≠ p) : hid b p H c = some o := by
  unfold hid
  rw [wo_ne n1, wo_ne n2]
  exact h
theorem hid_keep {b p : Addr} {H H' : Hp} (k : Keep H H' p) : Same (hid b p H) (hid b p H') := wo_mono (wo_keep k)
theorem hid_wo {b p : Addr} {H : Hp} : Same (hid b p H) (wo p H) := wo_same
theorem hid_b {b p : Addr} {H : Hp} {o : HO} : Same (hid b p H) (hid b p (upd H b o)) := fun c u e => by
  unfold hid at e ⊢
  have cb : c ≠ b := fun h => by rw [h] at e; unfold wo at e; rw [if_pos rfl] at e; cases e
  rw [wo_ne cb] at e ⊢
  have cp : c ≠ p := fun h => by rw [h] at e; unfold wo at e; rw [if_pos rfl] at e; cases e
  rw [wo_ne cp] at e ⊢
  rw [upd_ne cb]
  exact e
theorem hid_get {b p c : Addr} {H : Hp} {o : HO} (h : hid b p H c = some o) : H c = some o ∧ c ≠ b ∧ c ≠ p := by
  unfold hid at h
  have cb : c ≠ b := fun e => by rw [e] at h; unfold wo at h; rw [if_pos rfl] at h; cases h
  rw [wo_ne cb] at h
  have cp : c ≠ p := fun e => by rw [e] at h; unfold wo at h; rw [if_pos rfl] at h; cases h
  rw [wo_ne cp] at h
  exact ⟨h, cb, cp⟩
/-- where we stand: the hand, the list at b, the rest as it was -/
structure Fr (b p q : Addr) (ys : List V) (H0 Hs H : Hp) : Prop where
  hb : H b = some (.lst ys)
  bp : b ≠ p
  hp : HandAt H p q
  kp : Keep H0 H p
  sm : Same (hid b p Hs) (hid b p H)
  b0 : H0 b = none
  bq : b ≠ q
theorem Fr.new {b p q l : Addr} {ys : List V} {H0 Hs H : Hp} {o : HO} (f : Fr b p q ys H0 Hs H) (hl : H l = none) : Fr b p q ys H0 Hs (upd H l o) ∧ hid b p (upd H l o) l = some o ∧ Same (hid b p H) (hid b p (upd H l o)) := by
  have lb : l ≠ b := (ne_of_none f.hb hl).symm
  have lp : l ≠ p := f.hp.ap hl
  have l0 : H0 l = none := by
    cases e : H0 l with
    | none => rfl
    | some u => exact absurd hl (by rw [f.kp l u e lp]; exact fun z => nomatch z)
  have k : Keep H (upd H l o) p := fun c u e _ => by rw [upd_ne (ne_of_none e hl)]; exact e
  exact ⟨⟨by rw [upd_ne lb.symm]; exact f.hb, f.bp, f.hp.upd lp (f.hp.aq hl), keepUpd f.kp l0, f.sm.trans (hid_keep k), f.b0, f.bq⟩, hid_at upd_same lb lp, hid_keep k⟩
theorem Fr.draw {b p q : Addr} {ys : List V} {H0 Hs H H' : Hp} (f : Fr b p q ys H0 Hs H) (k : Keep H H' p) (h : HandAt H' p q) : Fr b p q ys H0 Hs H' ∧ Same (hid b p H) (hid b p H') :=
  ⟨⟨k b _ f.hb f.bp, f.bp, h, f.kp.trans k, f.sm.trans (hid_keep k), f.b0, f.bq⟩, hid_keep k⟩
def FineK (ks : List (Str × Int)) : Prop := ∀ r ∈ ks, Low r.1 ∧ r.1.length ≤ 6 ∧ 0 ≤ r.2 ∧ r.2 ≤ 2
theorem lab_low {z : Str} (h : isLab z = true) : Low z ∧ z.length ≤ 6 := by
  unfold isLab at h
  rw [Bool.and_eq_true, Bool.and_eq_true, decide_eq_true_eq, decide_eq_true_eq] at h
  refine ⟨fun c hc => ?_, h.2.1⟩
  have h3 := List.all_eq_true.mp h.2.2 c hc
  unfold isLow at h3
  simp only [Bool.and_eq_true, decide_eq_true_eq] at h3
  omega
theorem GoodK.fine {ks : List (Str × Int)} (g : GoodK ks) : FineK ks := fun r hr => ⟨(lab_low (g.each r hr).1).1, (lab_low (g.each r hr).1).2, (g.each r hr).2.2⟩
theorem pair_dd {H : Hp} {x : V} {r : Str × Int} (h : PairIs H x r) (l : Low r.1) (l6 : r.1.length ≤ 6) (i0 : 0 ≤ r.2) (i2 : r.2 ≤ 2) : ∃ d, Dd H 1 x d := by
  obtain ⟨t, rfl, h | h⟩ := h
  · exact ⟨_, Dd.lstP h (by show 2 ≤ 32; decide) (.cons (.str _ (fine_low l (by omega))) (.cons (.int _ (by omega)) .nil))⟩
  · exact ⟨_, Dd.tupP h (by show 2 ≤ 32; decide) (.cons (.str _ (fine_low l (by omega))) (.cons (.int _ (by omega)) .nil))⟩
theorem items_dd {H : Hp} : ∀ {xs : List V} {ks : List (Str × Int)}, ItemsAt H xs ks → FineK ks → ∃ ds, Dds H 1 xs ds
  | [], _, _, _ => ⟨[], .nil⟩
  | _ :: _, [], h, _ => by cases h.1
  | x :: xs, r :: ks, h, f => by
    obtain ⟨l, l6, i0, i2⟩ := f r (.head _)
    obtain ⟨d, hd⟩ := pair_dd (h.2 0 x r rfl rfl) l l6 i0 i2
    obtain ⟨ds, hs⟩ := items_dd (xs := xs) (ks := ks) ⟨Nat.succ.inj h.1, fun i y q e1 e2 => h.2 (i + 1) y q e1 e2⟩ fun q m => f q (.tail _ m)
    exact ⟨d :: ds, .cons hd hs⟩
theorem Dds.set {H : Hp} {n : Nat} {xs : List V} {ds : List PyData} {x : V} {d : PyData} (h : Dds H n xs ds) (hd : Dd H n x d) : ∀ j, Dds H n (xs.set j x) (ds.set j d) := by
  induction h with
  | nil => intro j; exact .nil
  | cons h t ih =>
    intro j
    cases j with
    | zero => exact .cons hd t
    | succ j => exact .cons h (ih j)
theorem Dds.mem {H : Hp} {n : Nat} {xs : List V} {ds : List PyData} (h : Dds H n xs ds) {x : V} (m : x ∈ xs) : ∃ d, Dd H n x d := by
  induction h with
  | nil => cases m
  | cons h t ih =>
    cases m with
    | head => exact ⟨_, h⟩
    | tail _ m => exact ih m
theorem hid_swap {b c p : Addr} {H : Hp} {o : HO} (hc : H c = none) : Same (hid b p H) (hid c p (upd H c o)) := fun a u e => by
  obtain ⟨e1, n1, n2⟩ := hid_get e
  have ac := ne_of_none e1 hc
  exact hid_at (by rw [upd_ne ac]; exact e1) ac n2
theorem ItemsAt.addn {H : Hp} {ks : List (Str × Int)} {x : V} {r : Str × Int} (hx : PairIs H x r) : ∀ (n : Nat) {xs : List V}, ItemsAt H xs ks → ItemsAt H (xs ++ List.replicate n x) (ks ++ List.replicate n r)
  | 0, xs, h => by simpa using h
  | n + 1, xs, h => by
    rw [List.replicate_succ', List.replicate_succ', ← List.append_assoc, ← List.append_assoc]
    exact (ItemsAt.addn hx n h).add hx
theorem flat_rep {α : Type} (x : α) : ∀ n, (List.replicate n [x]).flatten = List.replicate n x
  | 0 => rfl
  | n + 1 => by rw [List.replicate_succ, List.flatten_cons, flat_rep x n, List.replicate_succ]; rfl
theorem Fr.put {b p q c : Addr} {ys : List V} {H0 Hs H : Hp} {o : HO} (f : Fr b p q ys H0 Hs H) (n0 : H0 c = none) (ns : Hs c = none) (cb : c ≠ b) (cp : c ≠ p) (cq : c ≠ q) : Fr b p q ys H0 Hs (upd H c o) :=
  ⟨by rw [upd_ne cb.symm]; exact f.hb, f.bp, f.hp.upd cp cq, keepUpd f.kp n0, fun a u e => by
    obtain ⟨e1, n1, n2⟩ := hid_get (f.sm a u e)
    have ac : a ≠ c := fun h => by rw [h] at e; rw [(hid_get e).1] at ns; cases ns
    exact hid_at (by rw [upd_ne ac]; exact e1) n1 n2, f.b0, f.bq⟩
theorem wo_put {b p c : Addr} {H : Hp} {o : HO} : Same (wo c (hid b p H)) (wo c (hid b p (upd H c o))) := fun a u e => by
  have ac : a ≠ c := fun h => by rw [h] at e; unfold wo at e; rw [if_pos rfl] at e; cases e
  rw [wo_ne ac] at e ⊢
  obtain ⟨e1, n1, n2⟩ := hid_get e
  exact hid_at (by rw [upd_ne ac]; exact e1) n1 n2
theorem nw_hid {H H' : Hp} {b p : Addr} {o o' : HO} (hb : H b = some o) (hp : H p = some o') : Same (nw H H') (hid b p H') := fun a u e => by
  obtain ⟨e0, e1⟩ := nw_get e
  exact hid_at e1 (fun h => by rw [h, hb] at e0; cases e0) fun h => by rw [h, hp] at e0; cases e0
theorem HandAt.at_ {H : Hp} {p q : Addr} (h : HandAt H p q) : ∃ o, H p = some o := by
  obtain ⟨cs, a, b, c, h1, h2⟩ := h
  exact ⟨_, h1⟩
end Kx

set_option maxHeartbeats 4000000
namespace Kx
open PySem L2
def spLDeed : Sp := fun vs H Q _ => ∃ (b : Addr) (ks : List (Str × Int)) (y : V) (r : Option (List V)), vs = [.ref b, y] ∧ GoodL H b ks ∧ GoodK ks ∧ DeedIs H y r ∧ ∀ H', Same H H' → Q (wordV (deedWord ks r)) H'
theorem kNum_step {ks : List (Str × Int)} {i : Nat} {q : Str × Int} (nd : (ks.map (·.1)).Nodup) (e : ks[i]? = some q) (z : Str) : kNum (ks.take (i + 1)) (.str z) = if q.1 = z then some q.2 else kNum (ks.take i) (.str z) := by
  show ((ks.take (i + 1)).find? fun r => decide (r.1 = z)).map (·.2) = _
  rw [take_succ_of e, List.find?_append]
  by_cases h : q.1 = z
  · rw [if_pos h]
    have none : (ks.take i).find? (fun r => decide (r.1 = z)) = none := by
      rw [List.find?_eq_none]
      intro r hr hz
      have hz : r.1 = z := of_decide_eq_true hz
      obtain ⟨j, hj⟩ := List.mem_iff_getElem?.mp hr
      have lt : j < i := by
        have := (List.getElem?_eq_some_iff.mp hj).1
        rw [List.length_take] at this
        omega
      rw [List.getElem?_take_of_lt lt] at hj
      have a : (ks.map (·.1))[j]? = some z := by rw [List.getElem?_map, hj, ← hz]; rfl
      have b : (ks.map (·.1))[i]? = some z := by rw [List.getElem?_map, e, ← h]; rfl
      have := (List.getElem?_inj (by have := (List.getElem?_eq_some_iff.mp a).1; exact this) nd).mp (a.trans b.symm)
      omega
    rw [none, List.find?_cons_of_pos (by simpa using h)]
    rfl
  · rw [if_neg h, List.find?_cons_of_neg (by simpa using h), List.find?_nil, Option.or_none]
    rfl
theorem few_filt {xs : List V} (i : Nat) (h : xs.length ≤ 1000) : ((xs.take i).filter fun z => !labV z).length ≤ 1000 := by
  have h1 := List.length_filter_le (fun z => !labV z) (xs.take i)
  have h2 : (xs.take i).length ≤ xs.length := by
    rw [List.length_take]
    omega
  omega
theorem filt_all (xs : List V) : (xs.filter fun z => !labV z).length = 0 ↔ xs.all labV = true := by
  rw [List.length_eq_zero_iff, List.filter_eq_nil_iff, List.all_eq_true]
  constructor
  · intro h z hz
    have := h z hz
    simpa using this
  · intro h z hz
    simp [h z hz]
section
variable {P : Program} {w : World} {K : PySem.W.Frag} {mg : Str → Option Value} {base : Heap}
end
end Kx


set_option maxHeartbeats 4000000
namespace Kx
open PySem L2
/-- a label -/
def Lb (z : Str) : Prop := isLab z = true
theorem Lb.fine {z : Str} (h : Lb z) : Fine z := ⟨(lab_ok h).1, Nat.le_trans (lab_ok h).2 (by decide)⟩
def spPersons : Sp := fun vs H Q _ => ∃ p q : Addr, vs = [.ref p] ∧ HandAt H p q ∧ ∀ (b : Addr) (ys : List Str) (H' : Hp), wo p H' b = some (.lst (ys.map V.str)) → ys ≠ [] → ys.length ≤ 6 → (∀ y ∈ ys, Lb y) → ys.Nodup → HandAt H' p q → Keep H H' p → Q (.ref b) H'
def E0p : Hp := fun _ => none
theorem hid_E0 {b p : Addr} {H : Hp} : Same (hid b p E0p) H := fun c o e => by
  have z := (hid_get e).1
  cases z
theorem cut0 (xs : List V) : cutV xs none (some 0) = [] := by
  unfold cutV
  have e1 : HT.sIx xs.length xs.length (some 0) = 0 := by simp [HT.sIx]
  rw [e1]
  simp
theorem cut_sub {xs : List V} {lo hi : Option Int} {z : V} (h : z ∈ cutV xs lo hi) : z ∈ xs := List.mem_of_mem_drop (List.mem_of_mem_take h)
theorem cut_upto (ys : List Str) {i : Nat} (h : i ≤ ys.length) : cutV (ys.map V.str) none (some (i : Nat)) = (ys.take i).map V.str := by
  unfold cutV
  have e1 : HT.sIx (ys.map V.str).length (ys.map V.str).length (some ((i : Nat) : Int)) = i := by
    simp [HT.sIx]
    rw [if_neg (by omega)]
    omega
  have e2 : HT.sIx (ys.map V.str).length 0 none = 0 := by simp [HT.sIx]
  rw [e1, e2]
  simp [List.map_take]
section
variable {P : Program} {w : World} {K : PySem.W.Frag} {mg : Str → Option Value} {base : Heap}
abbrev nPers : List Str := ["_law_hand_here", "_law_persons_here", "_law_k", "_law_word_here", "_law_person"]
theorem scPers : FnScope nPers ["_law_hand_here"] (defScope sLPersons) := ⟨rfl, rfl, rfl, by decide +kernel, rfl, by decide +kernel, by decide +kernel⟩
theorem ok_persons {f : Addr} {fd : FuncData} (F : Fun K "_law_persons" "_law_persons" sLPersons f fd) (m : mg "_law_persons" = some (.ref f)) (T : Bl mg) (D : HasF P w K mg base "_law_draw" 2 ["_law_hand_here", "_law_many"] spDraw) (W : HasF P w K mg base "_law_word" 3 ["_law_hand_here", "_law_most"] spWord) (O : HasF P w K mg base "_law_one" 3 ["_law_hand_here", "_law_rows"] spOne) : HasF P w K mg base "_law_persons" 4 ["_law_hand_here"] spPersons := by
  refine ⟨f, fd, ?_, m, F.kp, F.binds fun _ _ _ _ _ _ us hl => match us, hl with | [_], _ => rfl⟩
  obtain ⟨f1, fd1, D⟩ := D; obtain ⟨f2, fd2, W⟩ := W; obtain ⟨f3, fd3, O⟩ := O
  refine F.ok scPers (fun vs H Q E h => ?_) (fun cdv A outer s H vs Q E hr h => ?_)
  · obtain ⟨a, b, rfl, _⟩ := h
    rfl
  · obtain ⟨p, q, rfl, hp, k⟩ := h
    have hr2 : Room 2 _ := hr.mono (by decide)
    refine ⟨_, (pss_cons (ps_set (i := 1) scPers.nd rfl (Or.inr rfl) (pe_lst pa_nil))
    (C8.pss_cut (ps_for PassesOwn.never rfl (pi_range1 (by rfl) T.range (pa_cons (pe_op op_add pe_int (pe_call D.G hr2 (by rfl) D.m D.kp D.b .nil pass0 (pa_cons (pv 0) (pa_cons pe_int pa_nil)))) pa_nil)) (pg_name (i := 2) scPers.nd rfl (.inl rfl))
        (pss_cons (ps_set (i := 3) scPers.nd rfl (Or.inl rfl) (pe_call O.G hr (by rfl) O.m O.kp O.b .nil pass0 (pa_cons (pv 0) (pa_cons (pe_lst (pa_cons pe_str (pa_cons pe_str (pa_cons pe_str (pa_cons (pe_call W.G hr (by rfl) W.m W.kp W.b .nil pass0 (pa_cons (pv 0) (pa_cons pe_int pa_nil))) (pa_cons (pe_call W.G hr (by rfl) W.m W.kp W.b .nil pass0 (pa_cons (pv 0) (pa_cons pe_int pa_nil))) pa_nil)))))) pa_nil))))
    (pss_one (ps_expr (pe_bm PySem.F.plainAttrs_list PySem.F.slot_list_append PySem.F.type_list_append mt_append (pv 1) (pa_cons (pv 3) pa_nil))))))
    (pss_one (ps_ret (pe_lc (own := [("_law_k", 2), ("_law_person", 4)]) (g := gTup K 2 (gCons (gName 2) (gCons (gName 4) gNil))) (by rfl) scPers.nd (pi_enumB (by rfl) T.enumerate (pa_cons (pv 1) pa_nil)) (blkOk_by (own := [("_law_k", 2), ("_law_person", 4)]) (N := nPers) (sc := defScope sLPersons) (by decide +kernel))
          (fun _ _ _ _ _ => pg_tup rfl (pgs_cons (pg_name scPers.nd rfl (.inl rfl)) (pgs_cons (pg_name scPers.nd rfl (.inl rfl)) pgs_nil))) (fun _ _ _ _ _ => pts_one (t := tTest (tOp (rIn K true) (tVar 4) (tSl (rSlL K) (tVar 1) tNoPart (tPart (tVar 2))))) (pt_cmpR (X := _) op_notIn_seq (pv 4) (pe_slice sl_list (pv 1) po_none (po_some (pv 2))) (by rfl))) (fun _ _ _ _ _ => (pv 4))))))), ?_⟩
    refine ⟨Nat.zero_le _, fun a ha => ?_⟩
    have nap := hp.ap ha
    have naq := hp.aq ha
    refine ⟨fun σ H2 => ∃ (ys : List Str) (v2 v3 : Option V), σ = [some (.ref p), some (.ref a), v2, v3, none] ∧ 1 ≤ ys.length ∧ ys.length ≤ 6 ∧ (∀ y ∈ ys, Lb y) ∧ Fr a p q (ys.map V.str) H E0p H2, ?_, ?_⟩
    · have fr0 : Fr a p q [] H E0p (upd H a (.lst [])) := ⟨upd_same, nap, hp.upd nap naq, keepUpd Keep.refl ha, hid_E0, ha, naq⟩
      refine ⟨_, rfl, p, q, 5, rfl, fr0.hp, by decide, by decide, fun z H1 z0 z1 hp1 k1 => ?_⟩
      obtain ⟨fr1, _⟩ := fr0.draw k1 hp1
      refine ⟨_, _, rfl, rfl, _, rfl, by omega, by omega, for_range (n := (2 + z).toNat) (fun i σ H2 => ∃ (ys : List Str) (v2 v3 : Option V), σ = [some (.ref p), some (.ref a), v2, v3, none] ∧ ys.length = i ∧ (∀ y ∈ ys, Lb y) ∧ Fr a p q (ys.map V.str) H E0p H2)
        ⟨[], none, none, rfl, rfl, (fun y hy => nomatch hy), fr1⟩ ?_ ?_⟩
      · rintro i σ H2 hi ⟨ys, v2, v3, rfl, yl, fy, fr2⟩
        refine ⟨_, rfl, _, rfl, p, q, 1, rfl, fr2.hp, by decide, by decide, fun u H3 u0 u1 lu hp3 k3 => ?_⟩
        obtain ⟨fr3, _⟩ := fr2.draw k3 hp3
        refine ⟨_, rfl, p, q, 6, rfl, fr3.hp, by decide, by decide, fun w' H4 w0 w1 lw hp4 k4 => ?_⟩
        obtain ⟨fr4, _⟩ := fr3.draw k4 hp4
        refine ⟨(by show 5 ≤ sizeLine; decide), fun r hr' => ?_⟩
        obtain ⟨fr5, at5, _⟩ := fr4.new (o := .lst [V.str "a", V.str "b", V.str "c", V.str u, V.str w']) hr'
        refine ⟨p, q, r, _, rfl, fr5.hp, upd_same, (hid_get at5).2.2, (by show 0 < 5; decide), (by show 5 ≤ 1000; decide), fun x H5 hx hp5 k5 => ?_⟩
        obtain ⟨fr6, _⟩ := fr5.draw k5 hp5
        have u1 : u.length ≤ 1 := u1
        have w1 : w'.length ≤ 6 := w1
        obtain ⟨y, rfl, hy⟩ : ∃ y, x = V.str y ∧ Lb y := by
          simp only [List.mem_cons, List.not_mem_nil, or_false] at hx
          rcases hx with e | e | e | e | e <;> subst e
          · exact ⟨_, rfl, show isLab _ = true by decide +kernel⟩
          · exact ⟨_, rfl, show isLab _ = true by decide +kernel⟩
          · exact ⟨_, rfl, show isLab _ = true by decide +kernel⟩
          · exact ⟨_, rfl, lab_of (by omega) (by omega) lu⟩
          · exact ⟨_, rfl, lab_of (by omega) (by omega) lw⟩
        refine ⟨_, rfl, .inl ⟨rfl, _, SqL.of fr6.hb⟩, _, rfl, a, _, _, rfl, rfl, fr6.hb, small1000 (by rw [List.length_map]; omega), ys ++ [y], _, _, rfl, by simp [yl], (fun t ht => (List.mem_append.mp ht).elim (fy t) fun e => by rw [List.mem_singleton.mp e]; exact hy), ?_⟩
        exact ⟨by rw [upd_same, List.map_append]; rfl, nap, fr6.hp.upd nap naq, keepUpd fr6.kp ha, hid_E0, ha, naq⟩
      · rintro σ H2 ⟨ys, v2, v3, rfl, yl, fy, fr2⟩
        exact ⟨ys, v2, v3, rfl, by omega, by omega, fy, fr2⟩
    rintro σ H2 ⟨ys, v2, v3, rfl, lo, hi6, fy, fr2⟩
    refine ⟨_, rfl, a, ys.map V.str, rfl, .inl ⟨SqL.of fr2.hb, fun D hD => ?_⟩⟩
    have Da : D ≠ a := (ne_of_none fr2.hb hD).symm
    have Dp : D ≠ p := fr2.hp.ap hD
    have Dq : D ≠ q := fr2.hp.aq hD
    have D0 : H D = none := by
      cases e : H D with
      | none => rfl
      | some u => exact absurd hD (by rw [fr2.kp D u e Dp]; exact fun z => nomatch z)
    refine lc_it walk_enum (fun i H3 => ∃ zs : List Str, H3 D = some (.lst (zs.map V.str)) ∧ zs.length ≤ i ∧ (0 < i → zs ≠ []) ∧ ((∀ y ∈ zs, Lb y) ∧ zs.Nodup ∧ ∀ y ∈ zs, y ∈ ys.take i) ∧ Fr a p q (ys.map V.str) H E0p H3)
      ⟨[], upd_same, Nat.zero_le _, (fun h => absurd h (by decide)), ⟨(fun y hy => nomatch hy), List.nodup_nil, (fun y hy => nomatch hy)⟩, fr2.put D0 rfl Da Dp Dq⟩ (fun i H3 _ ⟨_, _, _, _, _, f⟩ => SqL.of f.hb) ?_ ?_
    · rintro i v H3 H4 hi ⟨zs, hz, zl, zn, ⟨fz, nd, sub⟩, fr3⟩ ⟨t, x, y, rfl, ht, rfl, ex, ey⟩
      cases ex
      have ey : (ys.map V.str)[i]? = some y := ey
      obtain ⟨w', hw, rfl⟩ : ∃ w', ys[i]? = some w' ∧ V.str w' = y := by
        rw [List.getElem?_map] at ey
        cases e : ys[i]? with
        | none => rw [e] at ey; cases ey
        | some w' => rw [e] at ey; exact ⟨w', rfl, Option.some.inj ey⟩
      obtain ⟨fr4, at4, _⟩ := fr3.new (o := .tup [V.int (i : Nat), V.str w']) ht
      have tD : t ≠ D := (ne_of_none hz ht).symm
      refine ⟨t, _, rfl, SqT.of upd_same, rfl, _, _, rfl, _, _, rfl, rfl, rfl, ?_⟩
      refine ⟨_, rfl, _, rfl, _, rfl, _, rfl, a, _, rfl, SqL.of fr4.hb, fun s' hs => ?_⟩
      obtain ⟨fr5, at5, _⟩ := fr4.new (o := .lst (cutV (ys.map V.str) none (some (i : Nat)))) hs
      have hz4 : upd (upd H3 t (.tup [V.int (i : Nat), V.str w'])) s' (.lst (cutV (ys.map V.str) none (some (i : Nat)))) D = some (.lst (zs.map V.str)) := by
        have e4 : upd H3 t (.tup [V.int (i : Nat), V.str w']) D = some (.lst (zs.map V.str)) := by rw [upd_ne tD.symm]; exact hz
        rw [upd_ne (ne_of_none e4 hs)]
        exact e4
      have hy : Lb w' := fy w' (List.mem_of_getElem? hw)
      refine ⟨s', cutV (ys.map V.str) none (some (i : Nat)), rfl, .inl (SqL.of upd_same), rfl, ?_, _, rfl, ?_⟩
      · refine List.all_eq_true.mpr fun z hz => ?_
        obtain ⟨u, _, rfl⟩ := List.mem_map.mp (cut_sub hz)
        rfl
      have lt : i < ys.length := (List.getElem?_eq_some_iff.mp hw).1
      have nx : ∀ y ∈ zs, y ∈ ys.take (i + 1) := fun y m => List.take_subset_take_left _ (Nat.le_succ i) (sub y m)
      cases e : inV (V.str w') (cutV (ys.map V.str) none (some (i : Nat))) with
      | false =>
        refine iteT ⟨_, rfl, zs.map V.str, hz4, small1000 (by rw [List.length_map]; have := hi; rw [List.length_map] at this; omega), zs ++ [w'], ?_, by simp; omega, (fun _ => by simp), ⟨(fun u hu => (List.mem_append.mp hu).elim (fz u) fun e => by rw [List.mem_singleton.mp e]; exact hy), ?_, (fun y m => (List.mem_append.mp m).elim (nx y) fun e => by rw [List.mem_singleton.mp e, List.take_add_one, hw]; simp)⟩, fr5.put D0 rfl Da Dp Dq⟩
        rotate_left
        · have ni : ¬ w' ∈ zs := fun m => by
            rw [cut_upto ys (Nat.le_of_lt lt), inV_strs, decide_eq_true (sub w' m)] at e
            cases e
          refine List.nodup_append.mpr ⟨nd, List.nodup_cons.mpr ⟨(fun z => nomatch z), List.nodup_nil⟩, fun a ha b hb => ?_⟩
          rw [List.mem_singleton.mp hb]
          exact fun z => ni (z ▸ ha)
        rw [upd_same, List.map_append]
        rfl
      | true =>
        refine iteF ⟨zs, hz4, by omega, fun _ => ?_, ⟨fz, nd, nx⟩, fr5⟩
        by_cases i0 : i = 0
        · subst i0
          rw [show cutV (ys.map V.str) none (some ((0 : Nat) : Int)) = [] from cut0 _] at e
          cases e
        · exact zn (by omega)
    · rintro H3 ⟨zs, hz, zl, zn, ⟨fz, nd, _⟩, fr3⟩
      refine k D zs H3 (wo_at hz Dp) (zn (by rw [List.length_map]; omega)) (by rw [List.length_map] at zl; omega) fz nd fr3.hp fr3.kp
end
end Kx

set_option maxHeartbeats 4000000
namespace Kx
open PySem L2
/-- what a deed is made of: rows at b, persons at c -/
structure Mat (H : Hp) (p q b c : Addr) (ks : List (Str × Int)) (ys : List Str) : Prop where
  hp : HandAt H p q
  gl : GoodL (wo p H) b ks
  gk : GoodK ks
  hc : wo p H c = some (.lst (ys.map V.str))
  ne : ys ≠ []
  few : ys.length ≤ 6
  fine : ∀ y ∈ ys, Lb y
theorem Mat.keep {H H' : Hp} {p q b c : Addr} {ks : List (Str × Int)} {ys : List Str} (m : Mat H p q b c ks ys) (k : Keep H H' p) (hp : HandAt H' p q) : Mat H' p q b c ks ys :=
  ⟨hp, m.gl.keep (wo_keep k), m.gk, wo_keep k _ _ m.hc, m.ne, m.few, m.fine⟩
theorem wo_get {p b : Addr} {H : Hp} {o : HO} (h : wo p H b = some o) : H b = some o ∧ b ≠ p := ⟨wo_same _ _ h, fun e => by rw [e] at h; unfold wo at h; rw [if_pos rfl] at h; cases h⟩
/-- a deed of one of the kinds by the persons -/
def Made (ks : List (Str × Int)) (ys : List Str) (zs : List Str) : Prop := ∃ r ∈ ks, ∃ ps : List Str, zs = r.1 :: ps ∧ ((ps.length : Nat) : Int) = r.2 ∧ ∀ z ∈ ps, z ∈ ys
theorem Made.all {ks : List (Str × Int)} {ys zs : List Str} (m : Made ks ys zs) (g : GoodK ks) (l : ∀ y ∈ ys, Lb y) : 1 ≤ zs.length ∧ zs.length ≤ 3 ∧ ∀ z ∈ zs, Lb z := by
  obtain ⟨r, hr, ps, rfl, e, hp⟩ := m
  obtain ⟨h1, _, h2, h3⟩ := g.each r hr
  refine ⟨by simp, by simp; omega, fun z hz => ?_⟩
  rcases List.mem_cons.mp hz with e | h
  · rw [e]; exact h1
  · exact l z (hp z h)
theorem Made.due {ks : List (Str × Int)} {ys zs : List Str} (m : Made ks ys zs) (g : GoodK ks) (l : ∀ y ∈ ys, Lb y) : deedWord ks (some (zs.map V.str)) = none := by
  obtain ⟨r, hr, ps, rfl, e, hp⟩ := m
  have num : kNum ks (.str r.1) = some r.2 := by
    show (ks.find? fun q => decide (q.1 = r.1)).map (·.2) = some r.2
    have nd := g.nd
    clear g e hp
    induction ks with
    | nil => cases hr
    | cons k ks ih =>
      rw [List.map_cons, List.nodup_cons] at nd
      rcases List.mem_cons.mp hr with h | h
      · subst h
        rw [List.find?_cons_of_pos (by simp)]
        rfl
      · have ne : ¬ k.1 = r.1 := fun q => nd.1 (by rw [q]; exact List.mem_map.mpr ⟨r, h, rfl⟩)
        rw [List.find?_cons_of_neg (by simpa using ne)]
        exact ih h nd.2
  show (match kNum ks (.str r.1) with | none => some (Str.ofString "kind") | some k => if (((ps.map V.str).length : Nat) : Int) = k then (if (ps.map V.str).all labV then none else some (Str.ofString "person")) else some (Str.ofString "arity")) = none
  rw [num]
  show (if (((ps.map V.str).length : Nat) : Int) = r.2 then (if (ps.map V.str).all labV then none else some (Str.ofString "person")) else some (Str.ofString "arity")) = none
  rw [if_pos (by rw [List.length_map]; exact e), if_pos (List.all_eq_true.mpr fun v hv => by
    obtain ⟨z, hz, rfl⟩ := List.mem_map.mp hv
    exact l z (hp z hz))]
def spMade : Sp := fun vs H Q _ => ∃ (p q b c : Addr) (ks : List (Str × Int)) (ys : List Str), vs = [.ref p, .ref b, .ref c] ∧ Mat H p q b c ks ys ∧ ∀ (a : Addr) (zs : List Str) (H' : Hp), Fr a p q (zs.map V.str) H E0p H' → Made ks ys zs → Q (.ref a) H'
def spOddDeed : Sp := fun vs H Q _ => ∃ (p q b c : Addr) (ks : List (Str × Int)) (ys : List Str), vs = [.ref p, .ref b, .ref c] ∧ Mat H p q b c ks ys ∧ ∀ (x : V) (d : PyData) (H' : Hp), Dd (nw H H') 2 x d → HandAt H' p q → Keep H H' p → Q x H'
section
variable {P : Program} {w : World} {K : PySem.W.Frag} {mg : Str → Option Value} {base : Heap}
theorem scMade : FnScope ["_law_hand_here", "_law_rows", "_law_persons_here", "_law_row", "_law_deed", "_law_k"] ["_law_hand_here", "_law_rows", "_law_persons_here"] (defScope sLMadeDeed) := ⟨rfl, rfl, rfl, by decide +kernel, rfl, by decide +kernel, by decide +kernel⟩
theorem ok_made {f : Addr} {fd : FuncData} (F : Fun K "_law_made_deed" "_law_made_deed" sLMadeDeed f fd) (m : mg "_law_made_deed" = some (.ref f)) (T : Bl mg) (O : HasF P w K mg base "_law_one" 3 ["_law_hand_here", "_law_rows"] spOne) : HasF P w K mg base "_law_made_deed" 4 ["_law_hand_here", "_law_rows", "_law_persons_here"] spMade := by
  refine ⟨f, fd, ?_, m, F.kp, F.binds fun _ _ _ _ _ _ us hl => match us, hl with | [_, _, _], _ => rfl⟩
  obtain ⟨f3, fd3, O⟩ := O
  refine F.ok scMade (fun vs H Q E h => ?_) (fun cdv A outer s H vs Q E hr h => ?_)
  · obtain ⟨a, b, c, d, e, f, rfl, _⟩ := h
    rfl
  · obtain ⟨p, q, b, c, ks, ys, rfl, M, k⟩ := h
    refine ⟨_, (pss_cons (ps_set (i := 3) scMade.nd rfl (Or.inl rfl) (pe_call O.G hr (by rfl) O.m O.kp O.b .nil pass0 (pa_cons (pv 0) (pa_cons (pv 1) pa_nil))))
    (pss_cons (ps_set (i := 4) scMade.nd rfl (Or.inl rfl) (pe_lst (pa_cons (pe_ix ix_seq (pv 3) pe_int (fun _ _ => rfl)) pa_nil)))
    (C8.pss_cut (ps_for PassesOwn.never rfl (pi_range1 (by rfl) T.range (pa_cons (pe_ix ix_seq (pv 3) pe_int (fun _ _ => rfl)) pa_nil)) (pg_name (i := 5) scMade.nd rfl (.inl rfl))
        (pss_one (ps_expr (pe_bm PySem.F.plainAttrs_list PySem.F.slot_list_append PySem.F.type_list_append mt_append (pv 4) (pa_cons (pe_call O.G hr (by rfl) O.m O.kp O.b .nil pass0 (pa_cons (pv 0) (pa_cons (pv 2) pa_nil))) pa_nil)))))
    (pss_one (ps_ret (pv 4)))))), ?_⟩
    obtain ⟨xs, hx, it⟩ := M.gl
    have gk := M.gk
    have lxs := it.1
    refine ⟨_, rfl, _, rfl, p, q, b, xs, rfl, M.hp, (wo_get hx).1, (wo_get hx).2, (by have := gk.lo; omega), (by have := gk.hi; omega), fun x H1 hxm hp1 k1 => ?_⟩
    obtain ⟨i, hi⟩ := List.mem_iff_getElem?.mp hxm
    have lti : i < ks.length := by have := (List.getElem?_eq_some_iff.mp hi).1; omega
    have hq : ks[i]? = some ks[i] := List.getElem?_eq_getElem lti
    have M1 := M.keep k1 hp1
    obtain ⟨t, rfl, ht⟩ := (it.keep (wo_keep k1)).2 i x _ hi hq
    obtain ⟨lab, _, a0, a2⟩ := gk.each _ (List.getElem_mem lti)
    have ixr : ∀ {H2 : Hp} {j : Int} {v : V} {Q' : V → Hp → Prop}, Keep H1 H2 p → atI [V.str ks[i].1, V.int ks[i].2] j = some v → Q' v H2 → rIx K (.ref t) (.int j) H2 Q' := fun kk e q => by
      rcases ht with h | h
      · exact .inl ⟨_, _, _, _, rfl, rfl, SqL.of (kk _ _ (wo_get h).1 (wo_get h).2), e, q⟩
      · exact .inr (.inl ⟨_, _, _, _, rfl, rfl, SqT.of (kk _ _ (wo_get h).1 (wo_get h).2), e, q⟩)
    refine ⟨_, rfl, ixr Keep.refl rfl ⟨(by show 1 ≤ sizeLine; decide), fun a ha => ?_⟩⟩
    have nap := hp1.ap ha
    have naq := hp1.aq ha
    have ha0 : H a = none := by
      cases e : H a with
      | none => rfl
      | some u => exact absurd ha (by rw [k1 a u e nap]; exact fun z => nomatch z)
    have kk : Keep H1 (upd H1 a (.lst [V.str ks[i].1])) p := fun c u e _ => by rw [upd_ne (ne_of_none e ha)]; exact e
    have fr0 : Fr a p q ([ks[i].1].map V.str) H E0p (upd H1 a (.lst [V.str ks[i].1])) := ⟨upd_same, nap, hp1.upd nap naq, keepUpd k1 ha0, hid_E0, ha0, naq⟩
    have M2 := M1.keep kk fr0.hp
    refine ⟨fun σ H2 => ∃ (zs : List Str), σ[4]? = some (some (.ref a)) ∧ Made ks ys zs ∧ Fr a p q (zs.map V.str) H E0p H2, ?_, ?_⟩
    · refine ⟨_, rfl, ixr kk rfl ⟨_, rfl, by omega, by omega, for_range (n := ks[i].2.toNat) (fun j σ H2 => ∃ (zs : List Str) (v : Option V), σ = [some (.ref p), some (.ref b), some (.ref c), some (.ref t), some (.ref a), v] ∧ (∃ ps : List Str, zs = ks[i].1 :: ps ∧ ps.length = j ∧ ∀ z ∈ ps, z ∈ ys) ∧ Fr a p q (zs.map V.str) H E0p H2 ∧ wo p H2 c = some (.lst (ys.map V.str)) ∧ a ≠ c)
        ⟨[ks[i].1], none, rfl, ⟨[], rfl, rfl, fun z hz => nomatch hz⟩, fr0, M2.hc, fun e => by rw [e] at ha; rw [(wo_get M1.hc).1] at ha; cases ha⟩ ?_ ?_⟩⟩
      · rintro j σ H2 hj ⟨zs, v, rfl, ⟨ps, ez, pl, pm⟩, fr2, hc2, ac⟩
        have zl : zs.length = j + 1 := by rw [ez, List.length_cons, pl]
        refine ⟨_, rfl, .inl ⟨rfl, _, SqL.of fr2.hb⟩, _, rfl, _, rfl, p, q, c, _, rfl, fr2.hp, (wo_get hc2).1, (wo_get hc2).2, (by rw [List.length_map]; exact List.length_pos_iff.mpr M.ne), (by rw [List.length_map]; have := M.few; omega), fun x H3 hx3 hp3 k3 => ?_⟩
        obtain ⟨fr3, _⟩ := fr2.draw k3 hp3
        obtain ⟨y, hy, rfl⟩ := List.mem_map.mp hx3
        have hc3 := wo_keep k3 _ _ hc2
        refine ⟨a, _, _, rfl, rfl, fr3.hb, small1000 (by rw [List.length_map]; omega), zs ++ [y], _, rfl, ⟨ps ++ [y], by rw [ez]; rfl, by simp [pl], fun z hz => (List.mem_append.mp hz).elim (pm z) fun e => by rw [List.mem_singleton.mp e]; exact hy⟩, ⟨by rw [upd_same, List.map_append]; rfl, nap, fr3.hp.upd nap naq, keepUpd fr3.kp ha0, hid_E0, ha0, naq⟩, ?_, ac⟩
        exact wo_at (by rw [upd_ne ac.symm]; exact (wo_get hc3).1) (wo_get hc3).2
      · rintro σ H2 ⟨zs, v, rfl, ⟨ps, ez, pl, pm⟩, fr2, _⟩
        exact ⟨zs, rfl, ⟨ks[i], List.getElem_mem lti, ps, ez, by omega, pm⟩, fr2⟩
    rintro σ H2 ⟨zs, e4, md, fr2⟩
    exact ⟨_, e4, k a zs H2 fr2 md⟩
end
end Kx

set_option maxHeartbeats 4000000
namespace Kx
open PySem L2
theorem strs_dds {H : Hp} {n : Nat} : ∀ {zs : List Str}, (∀ z ∈ zs, Fine z) → Dds H n (zs.map V.str) (zs.map PyData.str)
  | [], _ => .nil
  | z :: zs, h => .cons (.str z (h z (.head _))) (strs_dds fun y m => h y (.tail _ m))
theorem strs_dd {H : Hp} {a : Addr} {zs : List Str} (h : H a = some (.lst (zs.map V.str))) (l : zs.length ≤ 32) (f : ∀ z ∈ zs, Fine z) : Dd H 1 (.ref a) (.list (zs.map PyData.str)) := Dd.lstP h (by rw [List.length_map]; exact l) (strs_dds f)
theorem Fr.free {b p q c : Addr} {ys : List V} {H0 Hs H : Hp} (f : Fr b p q ys H0 Hs H) (hc : H c = none) : H0 c = none ∧ c ≠ b ∧ c ≠ p ∧ c ≠ q := by
  have cp := f.hp.ap hc
  refine ⟨?_, (ne_of_none f.hb hc).symm, cp, f.hp.aq hc⟩
  cases e : H0 c with
  | none => rfl
  | some u => exact absurd hc (by rw [f.kp c u e cp]; exact fun z => nomatch z)
/-- what is new since H0, but for the thing at b -/
def hn (b : Addr) (H0 H : Hp) : Hp := wo b (nw H0 H)
theorem hn_nw {b : Addr} {H0 H : Hp} : Same (hn b H0 H) (nw H0 H) := wo_same
theorem hn_get {b c : Addr} {H0 H : Hp} {o : HO} (h : hn b H0 H c = some o) : H c = some o ∧ c ≠ b ∧ H0 c = none := by
  have e := hn_nw c o h
  have cb : c ≠ b := fun e => by unfold hn at h; rw [e] at h; unfold wo at h; rw [if_pos rfl] at h; cases h
  exact ⟨(nw_get e).2, cb, (nw_get e).1⟩
theorem hn_at {b c : Addr} {H0 H : Hp} {o : HO} (h : H c = some o) (n : c ≠ b) (h0 : H0 c = none) : hn b H0 H c = some o := wo_at (nw_at h0 h) n
theorem hn_b {b : Addr} {H0 H : Hp} {o : HO} : Same (hn b H0 H) (hn b H0 (upd H b o)) := fun c u e => by
  obtain ⟨h, n, h0⟩ := hn_get e
  exact hn_at (by rw [upd_ne n]; exact h) n h0
theorem Fr.newN {b p q l : Addr} {ys : List V} {H0 Hs H : Hp} {o : HO} (f : Fr b p q ys H0 Hs H) (hl : H l = none) : Fr b p q ys H0 Hs (upd H l o) ∧ hn b H0 (upd H l o) l = some o ∧ Same (hn b H0 H) (hn b H0 (upd H l o)) := by
  obtain ⟨l0, lb, lp, lq⟩ := f.free hl
  refine ⟨(f.new hl).1, hn_at upd_same lb l0, fun c u e => ?_⟩
  obtain ⟨h, n, h0⟩ := hn_get e
  exact hn_at (by rw [upd_ne (ne_of_none h hl)]; exact h) n h0
theorem Fr.drawN {b p q : Addr} {ys : List V} {H0 Hs H H' : Hp} (f : Fr b p q ys H0 Hs H) (hp0 : ∃ o, H0 p = some o) (k : Keep H H' p) (h : HandAt H' p q) : Fr b p q ys H0 Hs H' ∧ Same (hn b H0 H) (hn b H0 H') := by
  refine ⟨(f.draw k h).1, fun c u e => ?_⟩
  obtain ⟨g, n, h0⟩ := hn_get e
  obtain ⟨o, hp0⟩ := hp0
  exact hn_at (k c u g fun z => by rw [z, hp0] at h0; cases h0) n h0
theorem nw_hn {b p q : Addr} {ys : List V} {H0 Hs H H' : Hp} (f : Fr b p q ys H0 Hs H) : Same (nw H H') (hn b H0 H') := fun c u e => by
  obtain ⟨h, g⟩ := nw_get e
  obtain ⟨c0, cb, _, _⟩ := f.free h
  exact hn_at g cb c0
end Kx

set_option maxHeartbeats 4000000
namespace Kx
open PySem PySem.Spec PyProof.Rows L2
abbrev QT : VK := fun v _ => v = .bl true
abbrev EF : XK := fun _ _ _ => False
/-- the body of the law's def, asked at the call that the row makes (nothing is being shown by repr there) -/
def LawBody (P : Program) (w : World) (K : PySem.W.Frag) (mg : Str → Option Value) (base : Heap) (N : List Str) (x : Str) (st : Stmt) (fa : Addr) (k : Nat) : Prop :=
  ∀ (cdv : Value) (s : Shared) (H : Hp) (a : Addr) (ns : List Int), Room k (callerA.deeper (envOfC x (defScope st) s.heap.objs.size fa cdv)) → SqL K H a (ns.map V.int) → ns.length ≤ 63 →
    ∃ t, PSs (cxOf CX0 P w K mg base N x (defScope st) fa cdv callerA [] s H EF).nox (defBody st) t ∧ t { nx := fun _ H' => QT .non H', rt := QT } (start N [.ref a]) H
section
variable {P : Program} {w : World} {K : PySem.W.Frag} {mg mb : Str → Option Value} {k : Nat} {fa a : Addr} {fd : FuncData} {x y : Str} {st : Stmt} {N : List Str}
theorem law_at {base : Heap} (F : Fun K x x st fa fd) (S : FnScope N [y] (defScope st)) (hr : Room (k + 1) callerA) (B : LawBody P w K mg base N x st fa k) (bind : ∀ (s : Shared) (u : Value), BindsTo s fd ⟨[u], []⟩ [(y, u)])
    {s : Shared} {H : Hp} {ns : List Int} (e0 : Env0 P w K mg base callerA [] s H) (hS : SqL K H a (ns.map V.int)) (hn : ns.length ≤ 63) :
    codeAny (model P w) callerA (.call (.ref fa) ⟨[.ref a], []⟩) (CR CX0 [] P w H s QT EF) s := by
  obtain ⟨oc, od, kV, doc, pm, an, cdv, ct, osl, rfl, lk, hcd⟩ := F.ex
  have KX : K.In s.heap := e0.mod.kin.keeps fun b o e => (e0.bs b o e).1
  have noLim : s.heap.NoLimit := e0.mod.nolimit.keeps fun b o e => (e0.bs b o e).1
  have kinds : ∀ z ∈ [(y, Value.ref a)], (defScope st).names.lookup z.1 = some .local ∨ ((defScope st).names.lookup z.1 = some .cell ∧ ((cellsFrom (s.heap.objs.size + 1) (defScope st).names []).lookup z.1).isSome = true) := fun z hz => by
    obtain rfl : z = (y, Value.ref a) := by simpa using hz
    rcases S.par y (.head _) with q | q
    · exact .inl q
    · exact .inr ⟨q, PySem.W.cellsFrom_some _ _ _ (.inl q)⟩
  refine codeAny_call_function hr.depth (KX _ _ lk) rfl S.co S.gen rfl (PySem.W.codeRec_of KX hcd) (bind s (.ref a) _ _ _ _ (wpAny_newFunctionEnv_cells S.kind kinds fun env he s1 z => ?_))
  subst he
  obtain ⟨t, ht, hq⟩ := B cdv s H a ns (hr.deeper _) hS hn
  refine ⟨noLim.keeps z.toInCall.keep, codeAny_func (wpAny_mono (ht.nox.run [] s1 (start N [.ref a]) H _ (inv_start S hr.hd e0 rfl (.cons rfl .nil) z) hq) (fun fl s' got => ?_) fun e s' got => got)⟩
  cases fl with
  | ret u => obtain ⟨v, σ', H', J, rv, q⟩ := got; exact ⟨v, H', J.os, J.bare, J.base, J.hok, rv, q⟩
  | next => obtain ⟨σ', H', J, q⟩ := got; exact absurd q (fun z => nomatch z)
  | brk => obtain ⟨_, _, _, q⟩ := got; exact q.elim
  | cont => obtain ⟨_, _, _, q⟩ := got; exact q.elim
/-- behind the top nothing is tracked but the script -/
theorem env_at {s : Shared} {H : Hp} {vs : List Value} (KX : K.In s.heap) (main : s.heap.Ns mainGlobals mg) (blt : s.heap.Ns builtinsNs mb) (boot : ∀ x : Str, x ≠ "__name__" → mb x = bootBuiltins x) (lim : s.heap.NoLimit) (gens : s.gens = #[])
    (at_ : s.heap.get? a = some { cls := .type "list", data := .seq vs.toArray }) (ok : HOk P w H s.heap) (only : ∀ b, b ≠ a → H b = none) (mine : H a = none ∨ K.lookup a = none) : Env0 P w K mg (hidT s.heap H) callerA [] s H := by
  have keepK : K.In (hidT s.heap H) := fun b o e => hidT_get (KX b o e) (by
    by_cases z : b = a
    · subst z
      rcases mine with q | q
      · exact q
      · rw [q] at e; cases e
    · exact only b z)
  have keepN : ∀ {b : Addr} {m : Str → Option Value}, s.heap.Ns b m → (hidT s.heap H).Ns b m := by
    rintro b m ⟨o, es, ep, e, d, r⟩
    refine ⟨o, es, ep, hidT_get e (only b fun z => ?_), d, r⟩
    subst z
    rw [at_] at e
    cases e
    cases d
  obtain ⟨mc, l1, l2⟩ := lim
  exact ⟨rfl, ⟨keepK, keepN main, ⟨mb, keepN blt, boot⟩, ⟨mc, keepN l1, l2⟩⟩, fun b o e => of_hidT e, Nat.le_of_eq (hidT_size _ _), trivial, fun b hb => (nomatch hb), ok, .of_eq gens⟩
theorem law_end {s : Shared} {vs : List Value} {ns : List Int} (KX : K.In s.heap) (main : s.heap.Ns mainGlobals mg) (blt : s.heap.Ns builtinsNs mb) (boot : ∀ x : Str, x ≠ "__name__" → mb x = bootBuiltins x) (lim : s.heap.NoLimit) (gens : s.gens = #[])
    (at_ : s.heap.get? a = some { cls := .type "list", data := .seq vs.toArray }) (hints : IntsAre vs ns) (hn : ns.length ≤ 63)
    (run : ∀ (base : Heap) (H : Hp), K.In base → base.Ns mainGlobals mg → Env0 P w K mg base callerA [] s H → SqL K H a (ns.map V.int) → codeAny (model P w) callerA (.call (.ref fa) ⟨[.ref a], []⟩) (CR CX0 [] P w H s QT EF) s) :
    codeAny (model P w) callerA (.call (.ref fa) ⟨[.ref a], []⟩) (fun r s' => r = .ok (.ret (.bool true)) ∧ OldK s.heap s'.heap ∧ s'.os = s.os ∧ AllBare s'.gens) s := by
  have rv := vals_ints hints
  have fits : (ns.map V.int).length ≤ sizeLine := by rw [List.length_map]; exact Nat.le_of_lt (small1000 (by omega))
  have go : ∀ H : Hp, (∀ b, b ≠ a → H b = none) → (H a = none ∧ SqL K H a (ns.map V.int) ∨ K.lookup a = none ∧ H a = some (.frz { cls := .type "list", data := .seq vs.toArray } (.lst (ns.map V.int)))) →
      codeAny (model P w) callerA (.call (.ref fa) ⟨[.ref a], []⟩) (fun r s' => r = .ok (.ret (.bool true)) ∧ OldK s.heap s'.heap ∧ s'.os = s.os ∧ AllBare s'.gens) s := by
    intro H only mine
    have ok : HOk P w H s.heap := fun b u e => by
      by_cases z : b = a
      · subst z
        rcases mine with ⟨q, _⟩ | ⟨_, q⟩
        · rw [q] at e; cases e
        · rw [q] at e
          cases e
          exact ⟨at_, fits, vs, _, rv, at_⟩
      · rw [only b z] at e; cases e
    have e0 := env_at (P := P) (w := w) KX main blt boot lim gens at_ ok only (mine.elim (fun q => .inl q.1) fun q => .inr q.1)
    refine codeAny_mono (run _ H e0.mod.kin e0.mod.glob e0 (mine.elim (fun q => q.2) fun q => .inl (.inr ⟨_, q.2⟩))) fun r s' got => ?_
    rcases r with e | (_ | _ | _ | u)
    · exact got.elim
    · exact got.elim
    · exact got.elim
    · exact got.elim
    · obtain ⟨v, H', os, bare, un, ok', rel, q⟩ := got
      obtain rfl : v = .bl true := q
      obtain rfl : u = Value.bool true := rel
      refine ⟨rfl, OldK.of_keep fun b o e => ?_, os, bare⟩
      cases q : H b with
      | none => exact un.keep b o e q (fun z => (nomatch z)) (fun z => (nomatch z))
      | some u =>
        have z : b = a := Classical.byContradiction fun z => by rw [only b z] at q; cases q
        subst z
        rcases mine with ⟨q2, _⟩ | ⟨_, q2⟩
        · rw [q2] at q; cases q
        · rw [at_] at e
          cases e
          exact (ok' b _ (un.frzs b _ _ q2)).1
  cases hk : K.lookup a with
  | some o =>
    have e := KX a o hk
    rw [at_] at e
    cases e
    exact go (fun _ => none) (fun _ _ => rfl) (.inl ⟨rfl, .inr ⟨_, vs.toArray, _, hk, rfl, rfl, rfl, by rw [List.size_toArray, hints.length]; exact Nat.le_of_lt (small1000 (by omega)), by simpa using rv⟩⟩)
  | none => exact go (fun b => if b = a then some (.frz { cls := .type "list", data := .seq vs.toArray } (.lst (ns.map V.int))) else none) (fun b z => if_neg z) (.inr ⟨hk, if_pos rfl⟩)
end
theorem law_walk {l : PySem.W.OpenLaw} {q : Program} {loose : List Str} {XP : (Str → Option Value) → Heap → Prop} {YP : World → Heap → Prop} {d : DefRec} {K : Params → PySem.W.Frag} (hn : l.most = some 63) (hdf : d.params.defaults = []) (hY : ∀ (w : World) (h : Heap), YP w h → (K w.params).In h)
    (F : ∀ (w : World) (mg : Str → Option Value) (fa : Addr) (h : Heap), (K w.params).In h → h.Ns mainGlobals mg → mg d.name = some (.ref fa) →
      ∀ (base : Heap) (s : Shared) (H : Hp) (a : Addr) (ns : List Int), (K w.params).In base → base.Ns mainGlobals mg → Env0 l.prog w (K w.params) mg base callerA [] s H → SqL (K w.params) H a (ns.map V.int) → ns.length ≤ 63 →
        codeAny (model l.prog w) callerA (.call (.ref fa) ⟨[.ref a], []⟩) (CR CX0 [] l.prog w H s QT EF) s) : PySem.W.WalkO q loose XP YP l.row.toRowW d [] (fun f vs => PySem.call f vs) :=
  Att.attach_call hn hdf fun w s₀ s₁ mg mb fa o pm cd doc a vs ns G Y ho hd hcd hmg hobj hints hlen hg =>
    law_end (hY w _ Y) G.T.g G.T.b G.T.builtins G.T.nolimit hg hobj hints hlen fun base H kin main e0 hS => F w mg fa _ (hY w _ Y) G.T.g hmg base s₁ H a ns kin main e0 hS hlen
end Kx

set_option maxHeartbeats 4000000
namespace Kx
open PySem PySem.Spec PyProof.Rows L2
/-! a list comprehension whose step may be refused -/
theorem note_same {e : Value} {env env' : Env} (h : env.frame = env'.frame) : noteFrame e env = noteFrame e env' := by
  unfold noteFrame PySem.frameOf
  rw [h]
theorem ff_move {B B' h h' : Heap} : ∀ {l : List Env}, h.FunFrames B l → (∀ L ∈ frs l, B'.get? L = none ∧ h'.get? L = h.get? L) → h'.FunFrames B' l
  | [], _, _ => trivial
  | env :: l, x, k => by
    obtain ⟨hk, ⟨L, o, hf, _, ho, hd⟩, hr⟩ := x
    have z := k L (List.mem_filterMap.mpr ⟨env, List.mem_cons_self, hf⟩)
    exact ⟨hk, ⟨L, o, hf, z.1, z.2.trans ho, hd⟩, ff_move hr fun b hb => by
      obtain ⟨e, he, q⟩ := List.mem_filterMap.mp hb
      exact k b (List.mem_filterMap.mpr ⟨e, List.mem_cons_of_mem _ he, q⟩)⟩
/-- a block in whose step something may be raised, wished as E tells -/
abbrev blkX (X : Cx) (s : Shared) (H : Hp) (scope : Scope) (ce : Env) (fp : List Addr) (E : XK) : Cx :=
  { X.blk s H scope ce fp with xe := fun u s' => ∃ pins σ H' s0, Inv (X.blk s H scope ce fp) pins σ H' s0 ∧ L2.CX X.prog X.w X.stack H' s0 E u s' }
theorem okB {X : Cx} {s : Shared} {H : Hp} {scope : Scope} {ce : Env} {fp : List Addr} {E : XK} (ok : (X.blk s H scope ce fp).Ok) : (blkX X s H scope ce fp E).Ok :=
  ⟨ok.mod, ok.kind, ok.glob, ok.blt, ok.above, ok.inj, ok.has, ok.cab, ok.hd, ok.frames, ok.stk, ok.exf, ok.bs, ok.bsz, ok.noex, ok.exfs, ok.funs, ok.frf⟩
theorem okU {X : Cx} {s : Shared} {H : Hp} {scope : Scope} {ce : Env} {fp : List Addr} {E : XK} (ok : (blkX X s H scope ce fp E).Ok) : (X.blk s H scope ce fp).Ok :=
  ⟨ok.mod, ok.kind, ok.glob, ok.blt, ok.above, ok.inj, ok.has, ok.cab, ok.hd, ok.frames, ok.stk, ok.exf, ok.bs, ok.bsz, ok.noex, ok.exfs, ok.funs, ok.frf⟩
theorem invB {X : Cx} {s : Shared} {H : Hp} {scope : Scope} {ce : Env} {fp : List Addr} {E : XK} {pins : List (Addr × Obj)} {σ : L2.St} {H' : Hp} {s' : Shared} (I : Inv (X.blk s H scope ce fp) pins σ H' s') : Inv (blkX X s H scope ce fp E) pins σ H' s' :=
  ⟨okB I.ok, I.os, I.bare, I.base, I.loc, I.cell, I.free, I.freeC, I.pin, I.hok, I.len⟩
theorem invU {X : Cx} {s : Shared} {H : Hp} {scope : Scope} {ce : Env} {fp : List Addr} {E : XK} {pins : List (Addr × Obj)} {σ : L2.St} {H' : Hp} {s' : Shared} (I : Inv (blkX X s H scope ce fp E) pins σ H' s') : Inv (X.blk s H scope ce fp) pins σ H' s' :=
  ⟨okU I.ok, I.os, I.bare, I.base, I.loc, I.cell, I.free, I.freeC, I.pin, I.hok, I.len⟩
theorem passB {X : Cx} {s : Shared} {H : Hp} {scope : Scope} {ce : Env} {fp : List Addr} {E : XK} (σ : L2.St) : PassesAt (L2.CX X.prog X.w) (blkX X s H scope ce fp E) σ E := fun pins H' s0 _ _ I c => ⟨pins, σ, H', s0, invU I, c⟩
theorem sky_fly {B B0 h : Heap} {l : List Env} {a a0 : Addr} {Z Z0 : Obj → Prop} {L : Addr} (ea : (Value.ref a) = .ref a0) (s : Sky B l a Z L h) (f : HandSPX.FlyingZ B0 l a0 Z0 h) : HandSPX.FlyingZ B l a Z h := by
  cases ea
  obtain ⟨_, _, _, oe, vs, T, oT, ts, he, _, hd, h1, _, _, hT, hdT, h3⟩ := f
  rcases s with ⟨_, _, _, oe', vs', he', _, hd', h1'⟩ | f' | ⟨_, _, _, oe', vs', T', oT', ts', he', _, hd', h1', _, _, hT', hdT', h3'⟩
  · rw [he] at he'; cases he'
    rw [hd] at hd'; cases hd'
    rw [h1] at h1'; cases h1'
  · exact f'
  · rw [he] at he'; cases he'
    rw [hd] at hd'; cases hd'
    rw [h1] at h1'; cases h1'
    rw [hT] at hT'; cases hT'
    rw [hdT] at hdT'; cases hdT'
    rw [h3] at h3'; cases h3'
theorem blk_out {X : Cx} {W : WX} {pins : List (Addr × Obj)} {σ : L2.St} {H3 : Hp} {s3 : Shared} {scope : Scope} {ce : Env} {fp : List Addr} {use : Option (Value → Sem Unit)} {Qf : Value → Shared → Prop} {acc u : Value} {s' : Shared}
    (hs : X.stack = X.env :: X.outer) (hf : X.env.frame = some X.env.locals) (tk : Takes X W) (I3 : Inv X pins σ H3 s3) (fr : ce.frame = X.env.frame) (cL : ce.locals = s3.heap.objs.size) (hfp : ∀ b ∈ fp, FpOk X pins H3 b)
    (h : ∃ pins' σ' H' s0, Inv (X.blk s3 H3 scope ce fp) pins' σ' H' s0 ∧ L2.CX X.prog X.w X.stack H' s0 (fun cls d H => W cls d σ H) u s') :
    notedBy (model X.prog X.w) X.A ce (fun e s2 => compEnds (model X.prog X.w) X.A X.xe use Qf acc ce (.error e) s2) u s' := by
  obtain ⟨pins', σ', H', s0, I0, c⟩ := h
  have c0 := c
  obtain ⟨a0, B0, _, _, _, e0, fl0, _⟩ := c0
  obtain ⟨a, B, sI, p2, σ2, H2, cls, d, rfl, J, nb, up, sky, na, os, ag, w⟩ := XE.of_call (X := X.blk s3 H3 scope ce fp) (W := fun cls d _ H => W cls d σ H) I0 (fun _ _ _ h => h) c
  have fl : HandSPX.FlyingZ B X.stack a (Zc cls d) s'.heap := sky_fly e0 sky fl0
  have hfr : X.A.frames = some (X.env :: X.outer) := by rw [I3.ok.frames, hs]
  show wpAny _ _ (noteFrame (.ref a) ce) _ _ _
  rw [note_same fr]
  rw [hs] at fl
  refine HandSPX.looks_onZ Zc.steady hfr hf fl fun h1 held up1 => ?_
  have J1 : Inv (X.blk s3 H3 scope ce fp) p2 σ2 H2 { s' with heap := h1 } := J.landed (s' := { s' with heap := h1 }) nb held.1 (up.trans up1) os ag
  obtain ⟨m, hn, _⟩ := J1.loc
  have hn : h1.Ns ce.locals m := hn
  have hC : H2 ce.locals = none := J.free
  have fC : FpOk X pins H2 ce.locals := I3.fpOk (Nat.le_of_eq cL.symm) hC
  have nfr : ce.locals ∉ frs X.stack := fun hm => by
    rw [hs] at hm
    obtain ⟨e, he, q⟩ := List.mem_filterMap.mp hm
    rcases List.mem_cons.mp he with z | z
    · subst z
      rw [hf] at q
      exact fC.2.1 (Option.some.inj q).symm
    · exact fC.2.2.1 (List.mem_filterMap.mpr ⟨e, z, q⟩)
  obtain ⟨oC, BC⟩ : ∃ o, B.get? ce.locals = some o := by
    obtain ⟨m', hn', _⟩ := J.loc
    obtain ⟨o, _, _, ho, _⟩ := hn'
    exact ⟨o, nb _ _ ho nfr⟩
  have I7 : Inv X pins σ H2 sI := I3.call' (ch := fp) J.os J.base J.hok J.bare fun b hb => ⟨(hfp b hb).2.2.2.1, (hfp b hb).2.1, (hfp b hb).2.2.2.2.1, (hfp b hb).2.2.2.2.2⟩
  obtain ⟨f0, f1, f2, f3, f4, f5⟩ := fC
  have I8 : Inv X pins σ H2 { sI with heap := PySem.W.hideAll sI.heap [ce.locals] } := I7.turned (t' := sI.toks) (fun b o hb e => PySem.W.hideAll_get _ e (by simpa using hb)) f0 f1 f3 f4 f5
  have bB : ∀ b o, (PySem.W.hideAll B [ce.locals]).get? b = some o → B.get? b = some o ∧ b ≠ ce.locals := fun b o e => ⟨PySem.W.of_hideAll _ e, fun z => by
    rw [PySem.W.hideAll_none _ (show b ∈ [ce.locals] by simp [z])] at e
    cases e⟩
  have bN : ∀ b, B.get? b = none → (PySem.W.hideAll B [ce.locals]).get? b = none := fun b e => by
    cases q : (PySem.W.hideAll B [ce.locals]).get? b with
    | none => rfl
    | some o => rw [(bB b o q).1] at e; cases e
  obtain ⟨k1, k2, k3, oe, vs, T, oT, ts, he, hz, hd, h1', hnT, hTe, hT, hdT, h3'⟩ := held
  have aC : a ≠ ce.locals := fun z => by rw [z, BC] at k2; cases k2
  have TC : T ≠ ce.locals := fun z => by rw [z, BC] at hnT; cases hnT
  have goal : CompFails (model X.prog X.w) X.A X.xe ce (.ref a) { s' with heap := h1 } := by
    refine ⟨m, hn, fun h2 m2 hn2 sb => ?_⟩
    have he2 : h2.get? a = some oe := (sb.2 a aC).trans he
    have held2 : HandSPX.HeldZ (PySem.W.hideAll B [ce.locals]) (X.env :: X.outer) a (Zc cls d) X.env.locals h2 := by
      refine ⟨fun b o e => ?_, bN a k2, ff_move k3 fun L hL => ⟨bN L (k3.mem hL).1, sb.2 L fun z => nfr (by rw [hs, ← z]; exact hL)⟩, oe, vs, T, oT, ts, he2, hz, hd, h1', bN T hnT, hTe, (sb.2 T TC).trans hT, hdT, h3'⟩
      obtain ⟨e1, ne⟩ := bB b o e
      exact (sb.2 b ne).trans (k1 b o e1)
    unfold PySem.passOn
    refine wpAny_bind (wpAny_field he2 hd h1' ?_)
    rw [if_neg (show ¬ ((Value.ref T == Value.none) = true) by simp)]
    refine (fun (fly : wpAny (model X.prog X.w) X.A (setFlight (.ref a) ce.frame) (fun _ s4 => wpAny (model X.prog X.w) X.A (throw (.ref a) : Sem Value) (fun _ _ => False) X.xe s4) X.xe { s' with heap := h2 }) => ?_) ?_
    · first
        | exact wpAny_bind fly
        | exact wpAny_bind (wpAny_pure (wpAny_bind fly))
    rw [fr, hf]
    refine HandSPX.setFlight_onZ held2 fun h4 held4 up4 => wpAny_throw ?_
    refine tk _ _ ⟨a, PySem.W.hideAll B [ce.locals], { sI with heap := PySem.W.hideAll sI.heap [ce.locals] }, pins, σ, H2, cls, d, rfl, I8, fun b o e hb => ?_, fun b o e hnf => ?_, .inr (.inr (by rw [hs]; exact held4)), na, os, ag, w⟩
    · have ne : b ≠ ce.locals := fun z => by
        have e : (PySem.W.hideAll sI.heap [ce.locals]).get? b = some o := e
        rw [PySem.W.hideAll_none _ (show b ∈ [ce.locals] by simp [z])] at e
        cases e
      exact PySem.W.hideAll_get _ (nb b o (PySem.W.of_hideAll _ e) hb) (by simpa using ne)
    · have ne : b ≠ ce.locals := fun z => by
        have e : (PySem.W.hideAll sI.heap [ce.locals]).get? b = some o := e
        rw [PySem.W.hideAll_none _ (show b ∈ [ce.locals] by simp [z])] at e
        cases e
      obtain ⟨sl, e1⟩ := (up.trans up1) b o (PySem.W.of_hideAll _ e) hnf
      exact up4 b { o with slots := sl } ((sb.2 b ne).trans e1) hnf
  cases use <;> exact goal

theorem mono2 {α : Type} {m : Sem α} {Q Q' : α → Shared → Prop} {E E' : Value → Shared → Prop} {M : Model} {A : Around} {s : Shared} (h : wpAny M A m Q E s) (hq : ∀ a s, Q a s → Q' a s) (he : ∀ a s, E a s → E' a s) : wpAny M A m Q' E' s := wpAny_mono h hq he
section
variable {X : Cx} {W : WX} {elt tg iter : Expr} {ifs : List Expr} {scope : Scope} {own : List (Str × Nat)} {pos pos' : Pos} {wi : TI} {g : TG} {tt : TT} {te : XK → TE}
/-- as tLc, the step's wish for what it raises being W's -/
def tLcX (W : WX) (wi : TI) (g : TG) (tt : TT) (te : XK → TE) (vs : List Nat) : TE := fun σ H Q => tLc wi g tt (te fun cls d H' => W cls d σ H') vs σ H Q
theorem lc_goes {pins : List (Addr × Obj)} {s : Shared} {σ : L2.St} {H : Hp} {Q : VK} {use : Option (Value → Sem Unit)} {Qf : Value → Shared → Prop} (hs : X.stack = X.env :: X.outer) (hf : X.env.frame = some X.env.locals) (tk : Takes X W)
    (hc : X.calm = true) (hN : X.N.Nodup) (I : Inv X pins σ H s) (hi : PI X tg iter wi) (ok : BlkOk X.N X.env.scope scope own)
    (hg : ∀ (E : XK) (s : Shared) (H : Hp) (C : Addr) (cl : List (Str × Addr)) (fp : List Addr), PG (blkX X s H scope (compEnvC scope cl C X.env) fp E) tg g)
    (ht : ∀ (E : XK) (s : Shared) (H : Hp) (C : Addr) (cl : List (Str × Addr)) (fp : List Addr), PTs (blkX X s H scope (compEnvC scope cl C X.env) fp E) ifs tt)
    (he : ∀ (E : XK) (s : Shared) (H : Hp) (C : Addr) (cl : List (Str × Addr)) (fp : List Addr), PE (blkX X s H scope (compEnvC scope cl C X.env) fp E) elt (te E)) (hfold : ∀ x, foldedSetIterable iter X.env x = pure x)
    (h : tLcX W wi g tt te (own.map (·.2)) σ H Q)
    (hRR : ∀ D (ce : Env) s' m H', Inv X pins σ H' s' → Q (.ref D) H' → s'.heap.Ns ce.locals m → FpOk X pins H' ce.locals → compEnds (model X.prog X.w) X.A X.xe use Qf (.ref D) ce (.ok .next) s') :
    wpAny (model X.prog X.w) X.A (comprehension (.ListComp elt [⟨tg, iter, ifs, 0⟩] scope pos) scope X.env pos' (newList []) false (eval iter X.env) use) Qf X.xe s := by
  have hfree : ∀ y ∈ scope.names, y.2 = .free → ∃ c, X.env.cells.lookup y.1 = some c := fun y hy e => (ok.free y hy e).elim (fun k => I.ok.has _ (.inl k)) fun k => I.ok.has _ (.inr k)
  refine comprehension_at (use := use) rfl hfold (closure_ok hfree) ok.kind (fun y hy e => by rw [ok.uniq y hy, e]) (thn (hi.run pins s σ H _ I h) fun xv s1 hx => thn hx fun itv s2 h2 => ?_)
  obtain ⟨it, fp, tn, J, H2, rfl, I2, T, st2, f2, q⟩ := h2
  refine wpAny_newObj_type (newEnv_comp ?_) (by show 0 ≤ sizeLine; decide)
  obtain ⟨D, hD⟩ : ∃ D, s2.heap.objs.size = D := ⟨_, rfl⟩
  rw [hD]
  obtain ⟨Wv, ⟨m0, w0⟩, turn⟩ := q D (I2.hok.fresh (Nat.le_of_eq hD))
  obtain ⟨s3, hs3⟩ : ∃ s3, ({ s2 with heap := s2.heap.push { cls := .type "list", data := .seq ([] : List Value).toArray } } : Shared) = s3 := ⟨_, rfl⟩
  have h3 : s3.heap = s2.heap.push { cls := .type "list", data := .seq ([] : List Value).toArray } := by rw [← hs3]
  have I3 : Inv X pins σ (upd H2 D (.lst [])) s3 := by
    subst hs3
    exact I2.laid (t' := s2.toks) (fun b o e => Heap.get?_push_of_some _ e) (Nat.le_of_eq hD) ⟨Nat.zero_le _, [], 0, .nil, by rw [← hD]; exact Heap.get?_push_size _ rfl⟩
  have f3 : ∀ b ∈ fp, FpOk X pins (upd H2 D (.lst [])) b ∧ b < s3.heap.objs.size := fun b hb => by
    obtain ⟨o, e, _⟩ := T.obj _ _ st2 b hb
    have hlt : b < s2.heap.objs.size := Heap.lt_size e
    refine ⟨⟨?_, (f2 b hb).2⟩, by rw [h3, Heap.size_push]; exact Nat.lt_succ_of_lt hlt⟩
    rw [upd_ne (by rw [← hD]; exact Nat.ne_of_lt hlt)]
    exact (f2 b hb).1
  have st3 : tn 0 s3.heap := T.keep _ _ _ st2 fun b _ o e => by rw [h3]; exact Heap.get?_push_of_some _ e
  have I4 := invB (E := fun cls d H' => W cls d σ H') (block_start I3 ok hN f3)
  have pg := hg (fun cls d H' => W cls d σ H') s3 (upd H2 D (.lst [])) s3.heap.objs.size (cellsFrom (s3.heap.objs.size + 1) scope.names (cloFrom X.env.cells scope.names [])) fp
  have pt := ht (fun cls d H' => W cls d σ H') s3 (upd H2 D (.lst [])) s3.heap.objs.size (cellsFrom (s3.heap.objs.size + 1) scope.names (cloFrom X.env.cells scope.names [])) fp
  have pe := he (fun cls d H' => W cls d σ H') s3 (upd H2 D (.lst [])) s3.heap.objs.size (cellsFrom (s3.heap.objs.size + 1) scope.names (cloFrom X.env.cells scope.names [])) fp
  rw [show (({ s2 with heap := s2.heap.push { cls := .type "list", data := .seq ([] : List Value).toArray } } : Shared)) = s3 from hs3]
  show codeAny _ _ (.compStart (.ListComp elt [⟨tg, iter, ifs, 0⟩] scope pos) 0 (.ref it) (.ref D) (compEnvC scope (cellsFrom (s3.heap.objs.size + 1) scope.names (cloFrom X.env.cells scope.names [])) s3.heap.objs.size X.env))
    (compEnds (model X.prog X.w) X.A X.xe use Qf (.ref D) (compEnvC scope (cellsFrom (s3.heap.objs.size + 1) scope.names (cloFrom X.env.cells scope.names [])) s3.heap.objs.size X.env)) { s3 with heap := pushCells (s3.heap.push { cls := .type "dict", data := .dict #[] }) scope.names }
  have nfp : ∀ b ∈ fp, (upd H2 D (.lst [])) b = none := fun b hb => (f3 b hb).1.1
  have eL : (compEnvC scope (cellsFrom (s3.heap.objs.size + 1) scope.names (cloFrom X.env.cells scope.names [])) s3.heap.objs.size X.env).locals = s3.heap.objs.size := rfl
  have eF : (compEnvC scope (cellsFrom (s3.heap.objs.size + 1) scope.names (cloFrom X.env.cells scope.names [])) s3.heap.objs.size X.env).frame = X.env.frame := rfl
  generalize compEnvC scope (cellsFrom (s3.heap.objs.size + 1) scope.names (cloFrom X.env.cells scope.names [])) s3.heap.objs.size X.env = ce at I4 pg pt pe eL eF ⊢
  generalize upd H2 D (.lst []) = H3 at I3 I4 pg pt pe w0 nfp f3
  obtain ⟨s4, hs4⟩ : ∃ s4, ({ s3 with heap := pushCells (s3.heap.push { cls := .type "dict", data := .dict #[] }) scope.names } : Shared) = s4 := ⟨_, rfl⟩
  rw [hs4] at I4 ⊢
  have st4 : tn 0 s4.heap := T.keep _ _ _ st3 fun b _ o e => by rw [← hs4]; exact pushCells_keeps _ _ _ _ (Heap.get?_push_of_some _ e)
  have out : ∀ u s', (blkX X s3 H3 scope ce fp fun cls d H' => W cls d σ H').xe u s' → notedBy (model X.prog X.w) X.A ce (fun e s2 => compEnds (model X.prog X.w) X.A X.xe use Qf (.ref D) ce (.error e) s2) u s' := fun u s' z =>
    blk_out hs hf tk I3 eF eL (fun b hb => (f3 b hb).1) z
  have stat : ∀ {σ' : L2.St} {H' : Hp} {s' : Shared}, Inv (blkX X s3 H3 scope ce fp fun cls d H' => W cls d σ H') [] σ' H' s' → (∀ b ∈ fp, H' b = none) → ∀ b ∈ fp, FpOk (blkX X s3 H3 scope ce fp fun cls d H' => W cls d σ H') [] H' b := fun I' hn b hb =>
    ⟨hn b hb, (I'.ok.exf b hb).1, I'.ok.exfs b hb, .inl hb, fun x c e => (I'.ok.exf b hb).2 x c e, fun p hp => nomatch (show p ∈ ([] : List (Addr × Obj)) from hp)⟩
  have loop : codeAny (model X.prog X.w) X.A (.compLoop (.ListComp elt [⟨tg, iter, ifs, 0⟩] scope pos) 0 (.ref it) (.ref D) ce) (compEnds (model X.prog X.w) X.A X.xe use Qf (.ref D) ce) s4 := by
    refine compLoop_any (fun n s' => ∃ i H', Inv (blkX X s3 H3 scope ce fp fun cls d H' => W cls d σ H') [] (wipe σ (own.map (·.2))) H' s' ∧ tn i s'.heap ∧ (∀ b ∈ fp, H' b = none) ∧ Wv i n H') ?_ m0 ⟨0, H3, I4, st4, nfp, w0⟩
    rintro n s5 ⟨i, H5, I5, st5, n5, w5⟩
    rcases turn i n H5 w5 with ⟨stop, qq⟩ | ⟨go, Nx, hNx, step⟩
    · refine thn (T.done (blkX X s3 H3 scope ce fp fun cls d H' => W cls d σ H') rfl rfl rfl hc i [] s5 _ H5 _ I5 (stat I5 n5) st5 stop) fun r s6 ⟨hr, I6⟩ => ?_
      subst hr
      have I7 : Inv X pins σ H5 s6 := I3.call' (ch := fp) I6.os I6.base I6.hok I6.bare fun b hb => ⟨(f3 b hb).1.2.2.2.1, (f3 b hb).1.2.1, (f3 b hb).1.2.2.2.2.1, (f3 b hb).1.2.2.2.2.2⟩
      have nC : H5 ce.locals = none := I6.free
      obtain ⟨m, hn, _⟩ := I6.loc
      exact hRR D ce s6 m H5 I7 qq hn (I3.fpOk (Nat.le_of_eq eL.symm) nC)
    · refine thn (T.item (blkX X s3 H3 scope ce fp fun cls d H' => W cls d σ H') rfl rfl rfl hc i [] s5 _ H5 _ I5 (stat I5 n5) st5 go) fun r s6 ⟨u, hr, h6⟩ => ?_
      subst hr
      refine thn h6 fun _ s7 ⟨x, H7, I7, r7, y7, st7, n7⟩ => ?_
      have I7' := I7.pinned (stat I7 n7) (T.obj _ _ st7)
      refine mono2 (pg.run _ s7 _ H7 x u _ I7' r7 (step x H7 y7)) (fun _ s8 ⟨σ8, H8, I8, hw8, q8⟩ => ?_) out
      refine mono2 (pt.run _ s8 σ8 H8 _ I8 q8) (fun b s9 ⟨H9, I9, q9⟩ => ?_) out
      have fin : ∀ {s' : Shared} {H' : Hp}, Inv (blkX X s3 H3 scope ce fp fun cls d H' => W cls d σ H') ([] ++ pinsAt fp s7.heap) σ8 H' s' → Nx H' → ∃ m, m < n ∧ ∃ i H', Inv (blkX X s3 H3 scope ce fp fun cls d H' => W cls d σ H') [] (wipe σ (own.map (·.2))) H' s' ∧ tn i s'.heap ∧ (∀ b ∈ fp, H' b = none) ∧ Wv i m H' := fun {s' H'} I' nx => by
        obtain ⟨m', hm, w'⟩ := hNx H' nx
        have pin' : ∀ b ∈ fp, ∀ o, s7.heap.get? b = some o → s'.heap.get? b = some o ∧ H' b = none := fun b hb o e => ⟨(I'.pin (b, o) (List.mem_append_right _ (List.mem_append_right _ (mem_pinsAt hb e)))).1, (I'.pin (b, o) (List.mem_append_right _ (List.mem_append_right _ (mem_pinsAt hb e)))).2.1⟩
        refine ⟨m', hm, i + 1, H', (I'.unpinned (pins := [])).weak (by rw [← hw8, wipe_length]) (fun j v e => ?_), T.keep _ _ _ st7 fun b hb o e => (pin' b hb o e).1, fun b hb => ?_, w'⟩
        · rw [← hw8] at e
          exact (wipe_some e).1
        · obtain ⟨o, e, _⟩ := T.obj _ _ st7 b hb
          exact (pin' b hb o e).2
      cases b with
      | false =>
        rw [if_neg Bool.false_ne_true] at q9
        rw [if_neg Bool.false_ne_true]
        exact fin I9 q9
      | true =>
        rw [if_pos rfl] at q9
        rw [if_pos rfl]
        refine mono2 (pe.run _ s9 σ8 H9 _ I9 q9) (fun z s10 ⟨yv, H10, I10, r10, acc', hD10, hz10, nx⟩ => ?_) out
        exact app_ok (X := blkX X s3 H3 scope ce fp fun cls d H' => W cls d σ H') I10 hD10 hz10 r10 fun s11 I11 => fin I11 nx
  exact codeAny_compStart_list loop (T.self X.A 0 _ _ _ st4 loop)
/-- [..] as a value, its step may be refused -/
theorem pe_lcX (hs : X.stack = X.env :: X.outer) (hf : X.env.frame = some X.env.locals) (tk : Takes X W) (hc : X.calm = true) (hN : X.N.Nodup) (hi : PI X tg iter wi) (ok : BlkOk X.N X.env.scope scope own)
    (hg : ∀ (E : XK) (s : Shared) (H : Hp) (C : Addr) (cl : List (Str × Addr)) (fp : List Addr), PG (blkX X s H scope (compEnvC scope cl C X.env) fp E) tg g)
    (ht : ∀ (E : XK) (s : Shared) (H : Hp) (C : Addr) (cl : List (Str × Addr)) (fp : List Addr), PTs (blkX X s H scope (compEnvC scope cl C X.env) fp E) ifs tt)
    (he : ∀ (E : XK) (s : Shared) (H : Hp) (C : Addr) (cl : List (Str × Addr)) (fp : List Addr), PE (blkX X s H scope (compEnvC scope cl C X.env) fp E) elt (te E)) (hfold : ∀ x, foldedSetIterable iter X.env x = pure x := by intro _; rfl) :
    PE X (.ListComp elt [⟨tg, iter, ifs, 0⟩] scope pos) (tLcX W wi g tt te (own.map (·.2))) := by
  refine ⟨fun pins s σ H Q I h => ?_⟩
  rw [eval_ListComp]
  refine lc_goes hs hf tk hc hN I hi ok hg ht he hfold h fun D ce s' m H' I' q hn f => ⟨m, hn, fun h'' sb => ?_⟩
  obtain ⟨f0, f1, f2, f3, f4, f5⟩ := f
  exact ⟨.ref D, H', I'.turned (t' := s'.toks) (fun b o hb e => (sb.2 b hb).trans e) f0 f1 f3 f4 f5, rfl, q⟩
end
end Kx

set_option maxHeartbeats 4000000
namespace Kx
open PySem L2
theorem line2 {n : Nat} (h : n ≤ 2000000) : n < sizeLine := by
  have e : sizeLine = 16777216 := by decide
  omega
theorem pr_get {α β : Type} {F : α → β → Prop} {xs : List α} {ys : List β} (h : Paired F xs ys) : ∀ {i : Nat} {x : α}, xs[i]? = some x → ∃ y, ys[i]? = some y ∧ F x y := by
  induction h with
  | nil => intro i x e; cases e
  | cons h t ih =>
    intro i x e
    cases i with
    | zero => cases e; exact ⟨_, rfl, h⟩
    | succ i => exact ih e
theorem pr_imp {α β : Type} {F G : α → β → Prop} {xs : List α} {ys : List β} (h : Paired F xs ys) (k : ∀ a b, F a b → G a b) : Paired G xs ys := by
  induction h with
  | nil => exact .nil
  | cons h t ih => exact .cons (k _ _ h) ih
theorem pr_take {α β : Type} {F : α → β → Prop} {xs : List α} {ys : List β} (h : Paired F xs ys) : ∀ n, Paired F (xs.take n) (ys.take n) := by
  induction h with
  | nil => intro n; rw [List.take_nil, List.take_nil]; exact .nil
  | cons h t ih =>
    intro n
    cases n with
    | zero => exact .nil
    | succ n => exact .cons h (ih n)
theorem pr_drop {α β : Type} {F : α → β → Prop} {xs : List α} {ys : List β} (h : Paired F xs ys) : ∀ n, Paired F (xs.drop n) (ys.drop n) := by
  induction h with
  | nil => intro n; rw [List.drop_nil, List.drop_nil]; exact .nil
  | cons h t ih =>
    intro n
    cases n with
    | zero => exact .cons h t
    | succ n => exact ih n
theorem pr_app {α β : Type} {F : α → β → Prop} {xs zs : List α} {ys ws : List β} (h : Paired F xs ys) (k : Paired F zs ws) : Paired F (xs ++ zs) (ys ++ ws) := by
  induction h with
  | nil => exact k
  | cons h t ih => exact .cons h ih
theorem pr_rep {α β : Type} {F : α → β → Prop} {x : α} {y : β} (h : F x y) : ∀ n, Paired F (List.replicate n x) (List.replicate n y)
  | 0 => .nil
  | n + 1 => .cons h (pr_rep h n)
/-! years, as they are told -/
/-- a list or a tuple at b -/
inductive IsSeq (K : PySem.W.Frag) (H : Hp) (b : Addr) (xs : List V) : Prop where
  | lst (h : H b = some (.lst xs)) : IsSeq K H b xs
  | tup (h : H b = some (.tup xs)) : IsSeq K H b xs
  | wr {o : Obj} (e : K.lookup b = some o) (c : o.cls = .type "tuple") (h : ∀ H, SqT K H b xs) : IsSeq K H b xs
theorem IsSeq.keep {K : PySem.W.Frag} {H H' : Hp} {b : Addr} {xs : List V} (h : IsSeq K H b xs) (s : Same H H') : IsSeq K H' b xs := by
  cases h with
  | lst h => exact .lst (s _ _ h)
  | tup h => exact .tup (s _ _ h)
  | wr e c h => exact .wr e c h
theorem IsSeq.sq {K : PySem.W.Frag} {H : Hp} {b : Addr} {xs : List V} (h : IsSeq K H b xs) : SqL K H b xs ∨ SqT K H b xs := by
  cases h with
  | lst h => exact .inl (SqL.of h)
  | tup h => exact .inr (SqT.of h)
  | wr e c h => exact .inr (h H)
theorem IsSeq.off {K : PySem.W.Frag} {H : Hp} {b p : Addr} {xs : List V} {C dx : Addr} {fs : List (Str × V)} (h : IsSeq K H b xs) (hp : H p = some (.ins C dx fs)) : IsSeq K (wo p H) b xs := by
  cases h with
  | lst h => exact .lst (wo_at h fun e => by rw [e, hp] at h; cases h)
  | tup h => exact .tup (wo_at h fun e => by rw [e, hp] at h; cases h)
  | wr e c h => exact .wr e c h
theorem IsSeq.ty {K : PySem.W.Frag} {H : Hp} {b : Addr} {xs : List V} (h : IsSeq K H b xs) : ∃ n, n ∈ ["NoneType", "bool", "int", "str", "list", "tuple", "dict"] ∧ seqV n = true ∧ ∀ H', Same H H' → TyX K H' (.ref b) (.type n) := by
  cases h with
  | lst h => exact ⟨"list", by decide, rfl, fun H' s => .base (.lst (s _ _ h))⟩
  | tup h => exact ⟨"tuple", by decide, rfl, fun H' s => .base (.tup (s _ _ h))⟩
  | wr e c h => exact ⟨"tuple", by decide, rfl, fun H' s => .kTuple e c⟩
theorem Kd.off {H : Hp} {x : V} {n : String} {p C dx : Addr} {fs : List (Str × V)} (h : Kd H x n) (hp : H p = some (.ins C dx fs)) : Kd (wo p H) x n := by
  cases h with
  | non => exact .non
  | bl b => exact .bl b
  | int i => exact .int i
  | str z => exact .str z
  | lst a xs h => exact .lst a xs (wo_at h fun e => by rw [e, hp] at h; cases h)
  | tup a xs h => exact .tup a xs (wo_at h fun e => by rw [e, hp] at h; cases h)
  | dct a xs h => exact .dct a xs (wo_at h fun e => by rw [e, hp] at h; cases h)
theorem Thing.off {H : Hp} {x : V} {n : String} {p C dx : Addr} {fs : List (Str × V)} (h : Thing H x n) (hp : H p = some (.ins C dx fs)) : Thing (wo p H) x n := ⟨h.kd.off hp, h.fine⟩
theorem DeedIs.off {H : Hp} {y : V} {r : Option (List V)} {p C dx : Addr} {fs : List (Str × V)} (h : DeedIs H y r) (hp : H p = some (.ins C dx fs)) : DeedIs (wo p H) y r := by
  cases h with
  | lst h t l => exact .lst (wo_at h fun e => by rw [e, hp] at h; cases h) (fun x m => (t x m).imp fun n q => q.off hp) l
  | tup h t l => exact .tup (wo_at h fun e => by rw [e, hp] at h; cases h) (fun x m => (t x m).imp fun n q => q.off hp) l
  | oth h l => exact .oth (h.off hp) l
/-- a year, as it is told: its deeds -/
inductive YearIs (K : PySem.W.Frag) (H : Hp) : V → Option (List (Option (List V))) → Prop where
  | seq {b : Addr} {xs : List V} {rs : List (Option (List V))} (h : IsSeq K H b xs) (a : Paired (DeedIs H) xs rs) (l : xs.length ≤ 1000001) : YearIs K H (.ref b) (some rs)
  | oth {y : V} {n : String} (h : Kd H y n) (l : seqV n = false) : YearIs K H y none
theorem YearIs.keep {K : PySem.W.Frag} {H H' : Hp} {y : V} {r : Option (List (Option (List V)))} (h : YearIs K H y r) (s : Same H H') : YearIs K H' y r := by
  cases h with
  | seq h a l => exact .seq (h.keep s) (pr_imp a fun _ _ q => q.keep s) l
  | oth h l => exact .oth (h.keep s) l
theorem YearIs.off {K : PySem.W.Frag} {H : Hp} {y : V} {r : Option (List (Option (List V)))} {p C dx : Addr} {fs : List (Str × V)} (h : YearIs K H y r) (hp : H p = some (.ins C dx fs)) : YearIs K (wo p H) y r := by
  cases h with
  | seq h a l => exact .seq (h.off hp) (pr_imp a fun _ _ q => q.off hp) l
  | oth h l => exact .oth (h.off hp) l
/-- years, as they are told -/
inductive YearsIs (K : PySem.W.Frag) (H : Hp) : V → Option (List (Option (List (Option (List V))))) → Prop where
  | seq {b : Addr} {xs : List V} {rs : List (Option (List (Option (List V))))} (h : IsSeq K H b xs) (a : Paired (YearIs K H) xs rs) (l : xs.length ≤ 1000003) : YearsIs K H (.ref b) (some rs)
  | oth {y : V} {n : String} (h : Kd H y n) (l : seqV n = false) : YearsIs K H y none
theorem YearsIs.keep {K : PySem.W.Frag} {H H' : Hp} {y : V} {r : Option (List (Option (List (Option (List V)))))} (h : YearsIs K H y r) (s : Same H H') : YearsIs K H' y r := by
  cases h with
  | seq h a l => exact .seq (h.keep s) (pr_imp a fun _ _ q => q.keep s) l
  | oth h l => exact .oth (h.keep s) l
theorem YearsIs.off {K : PySem.W.Frag} {H : Hp} {y : V} {r : Option (List (Option (List (Option (List V)))))} {p C dx : Addr} {fs : List (Str × V)} (h : YearsIs K H y r) (hp : H p = some (.ins C dx fs)) : YearsIs K (wo p H) y r := by
  cases h with
  | seq h a l => exact .seq (h.off hp) (pr_imp a fun _ _ q => q.off hp) l
  | oth h l => exact .oth (h.off hp) l
/-- whether it is a list or a tuple: what is_sequence wants to know -/
def SeqQ (K : PySem.W.Frag) (H : Hp) (y : V) (b : Bool) : Prop := ∃ n, n ∈ ["NoneType", "bool", "int", "str", "list", "tuple", "dict"] ∧ seqV n = b ∧ ∀ H', Same H H' → TyX K H' y (.type n)
theorem SeqQ.keep {K : PySem.W.Frag} {H H' : Hp} {y : V} {b : Bool} (h : SeqQ K H y b) (s : Same H H') : SeqQ K H' y b := by
  obtain ⟨n, a, e, t⟩ := h
  exact ⟨n, a, e, fun H2 s2 => t H2 (s.trans s2)⟩
theorem YearIs.sq {K : PySem.W.Frag} {H : Hp} {y : V} {r : Option (List (Option (List V)))} (h : YearIs K H y r) : SeqQ K H y r.isSome := by
  cases h with
  | seq h a l =>
    obtain ⟨n, a, b, c⟩ := h.ty
    exact ⟨n, a, b, c⟩
  | oth h l => exact ⟨_, h.kits, l, fun H' s => (h.keep s).ty⟩
theorem YearsIs.sq {K : PySem.W.Frag} {H : Hp} {y : V} {r : Option (List (Option (List (Option (List V)))))} (h : YearsIs K H y r) : SeqQ K H y r.isSome := by
  cases h with
  | seq h a l =>
    obtain ⟨n, a, b, c⟩ := h.ty
    exact ⟨n, a, b, c⟩
  | oth h l => exact ⟨_, h.kits, l, fun H' s => (h.keep s).ty⟩
/-- the first wrong deed -/
def scanD (ks : List (Str × Int)) : Nat → List (Option (List V)) → Option (Nat × Str)
  | _, [] => none
  | j, r :: rs => match deedWord ks r with
    | some w => some (j, w)
    | none => scanD ks (j + 1) rs
def yearWord (ks : List (Str × Int)) : Option (List (Option (List V))) → Option (Nat × Str)
  | none => some (0, "year")
  | some rs => scanD ks 0 rs
def scanY (ks : List (Str × Int)) : Nat → List (Option (List (Option (List V)))) → Option (Nat × Nat × Str)
  | _, [] => none
  | i, r :: rs => match yearWord ks r with
    | some (j, w) => some (i, j, w)
    | none => scanY ks (i + 1) rs
def lenY : Option (List (Option (List V))) → Nat
  | none => 0
  | some l => l.length
def countD (rs : List (Option (List (Option (List V))))) : Nat := (rs.map lenY).sum
def tooMany (rs : List (Option (List (Option (List V))))) : Bool := decide (1000000 < rs.length) || decide (1000000 < countD rs)
def yearsDue (ks : List (Str × Int)) : Option (List (Option (List (Option (List V))))) → Option (Nat × Nat × Str)
  | none => some (0, 0, "years")
  | some rs => if tooMany rs = true then some (0, 0, "many") else scanY ks 0 rs
theorem scanD_step {ks : List (Str × Int)} {rs : List (Option (List V))} {j : Nat} {r : Option (List V)} (h : rs[j]? = some r) (n : Nat) : scanD ks n (rs.drop j) = match deedWord ks r with | some w => some (n, w) | none => scanD ks (n + 1) (rs.drop (j + 1)) := by
  obtain ⟨lt, e⟩ := List.getElem?_eq_some_iff.mp h
  rw [List.drop_eq_getElem_cons lt, e]
  rfl
theorem scanY_step {ks : List (Str × Int)} {rs : List (Option (List (Option (List V))))} {j : Nat} {r : Option (List (Option (List V)))} (h : rs[j]? = some r) (n : Nat) : scanY ks n (rs.drop j) = match yearWord ks r with | some (i, w) => some (n, i, w) | none => scanY ks (n + 1) (rs.drop (j + 1)) := by
  obtain ⟨lt, e⟩ := List.getElem?_eq_some_iff.mp h
  rw [List.drop_eq_getElem_cons lt, e]
  rfl
theorem deedWord_none {ks : List (Str × Int)} {r : Option (List V)} (h : deedWord ks r = none) : ∃ zs : List Str, r = some (zs.map V.str) := by
  cases r with
  | none => cases h
  | some l =>
    cases l with
    | nil => cases h
    | cons x xs =>
      have h : (match kNum ks x with | none => some (Str.ofString "kind") | some k => if ((xs.length : Nat) : Int) = k then (if xs.all labV then none else some (Str.ofString "person")) else some (Str.ofString "arity")) = none := h
      cases e : kNum ks x with
      | none => rw [e] at h; cases h
      | some k =>
        rw [e] at h
        have h : (if ((xs.length : Nat) : Int) = k then (if xs.all labV then none else some (Str.ofString "person")) else some (Str.ofString "arity")) = none := h
        by_cases h1 : ((xs.length : Nat) : Int) = k
        · rw [if_pos h1] at h
          by_cases h2 : xs.all labV = true
          · obtain ⟨z, rfl⟩ : ∃ z, x = .str z := by
              cases x with
              | str z => exact ⟨z, rfl⟩
              | _ => cases e
            have all : ∀ ys : List V, ys.all labV = true → ∃ zs : List Str, ys = zs.map V.str := by
              intro ys
              induction ys with
              | nil => intro _; exact ⟨[], rfl⟩
              | cons y ys ih =>
                intro q
                rw [List.all_cons, Bool.and_eq_true] at q
                obtain ⟨z, rfl, _⟩ := lab_str q.1
                obtain ⟨zs, rfl⟩ := ih q.2
                exact ⟨z :: zs, rfl⟩
            obtain ⟨zs, rfl⟩ := all xs h2
            exact ⟨z :: zs, rfl⟩
          · rw [if_neg h2] at h; cases h
        · rw [if_neg h1] at h; cases h
/-- deeds as things told -/
def dR (ds : List (List Str)) : List (Option (List V)) := ds.map fun d => some (d.map V.str)
def yR (ys : List (List (List Str))) : List (Option (List (Option (List V)))) := ys.map fun y => some (dR y)
theorem scanD_none {ks : List (Str × Int)} : ∀ {rs : List (Option (List V))} {j : Nat}, scanD ks j rs = none → ∃ ds, rs = dR ds
  | [], _, _ => ⟨[], rfl⟩
  | r :: rs, j, h => by
    have h : (match deedWord ks r with | some w => some (j, w) | none => scanD ks (j + 1) rs) = none := h
    cases e : deedWord ks r with
    | some w => rw [e] at h; cases h
    | none =>
      rw [e] at h
      have h5 : scanD ks (j + 1) rs = none := h
      obtain ⟨zs, rfl⟩ := deedWord_none e
      obtain ⟨ds, rfl⟩ := scanD_none h5
      exact ⟨zs :: ds, rfl⟩
theorem yearWord_none {ks : List (Str × Int)} {r : Option (List (Option (List V)))} (h : yearWord ks r = none) : ∃ ds, r = some (dR ds) := by
  cases r with
  | none => cases h
  | some rs =>
    obtain ⟨ds, rfl⟩ := scanD_none (rs := rs) h
    exact ⟨ds, rfl⟩
theorem scanY_none {ks : List (Str × Int)} : ∀ {rs : List (Option (List (Option (List V))))} {j : Nat}, scanY ks j rs = none → ∃ ys, rs = yR ys
  | [], _, _ => ⟨[], rfl⟩
  | r :: rs, j, h => by
    have h : (match yearWord ks r with | some (i, w) => some (j, i, w) | none => scanY ks (j + 1) rs) = none := h
    cases e : yearWord ks r with
    | some w => rw [e] at h; obtain ⟨i, w⟩ := w; cases h
    | none =>
      rw [e] at h
      have h5 : scanY ks (j + 1) rs = none := h
      obtain ⟨ds, rfl⟩ := yearWord_none e
      obtain ⟨ys, rfl⟩ := scanY_none h5
      exact ⟨ds :: ys, rfl⟩
/-! what stands: texts, deeds, years, in lists or in tuples -/
def Ss (mk : List V → HO) (H : Hp) (x : V) (zs : List Str) : Prop := ∃ a, x = .ref a ∧ H a = some (mk (zs.map V.str))
def Ds (mk : List V → HO) (H : Hp) (x : V) (ds : List (List Str)) : Prop := ∃ a xs, x = .ref a ∧ H a = some (mk xs) ∧ Paired (Ss mk H) xs ds
def Ys (mk : List V → HO) (H : Hp) (x : V) (ys : List (List (List Str))) : Prop := ∃ a xs, x = .ref a ∧ H a = some (mk xs) ∧ Paired (Ds mk H) xs ys
theorem Ss.keep {mk : List V → HO} {H H' : Hp} {x : V} {zs : List Str} (h : Ss mk H x zs) (s : Same H H') : Ss mk H' x zs := by
  obtain ⟨a, e, h⟩ := h
  exact ⟨a, e, s _ _ h⟩
theorem Ds.keep {mk : List V → HO} {H H' : Hp} {x : V} {ds : List (List Str)} (h : Ds mk H x ds) (s : Same H H') : Ds mk H' x ds := by
  obtain ⟨a, xs, e, h, p⟩ := h
  exact ⟨a, xs, e, s _ _ h, pr_imp p fun _ _ q => q.keep s⟩
theorem Ys.keep {mk : List V → HO} {H H' : Hp} {x : V} {ys : List (List (List Str))} (h : Ys mk H x ys) (s : Same H H') : Ys mk H' x ys := by
  obtain ⟨a, xs, e, h, p⟩ := h
  exact ⟨a, xs, e, s _ _ h, pr_imp p fun _ _ q => q.keep s⟩
def hFs (k y : Addr) : List (Str × V) := putF "years" (.ref y) (putF "kinds" (.ref k) [])
theorem s_ky : ¬ (Str.ofString "kinds") = Str.ofString "years" := by decide +kernel
theorem hFs_k (k y : Addr) : (hFs k y).lookup ("kinds" : Str) = some (.ref k) := by
  unfold hFs
  rw [lookup_putF, if_neg s_ky, lookup_putF, if_pos rfl]
theorem hFs_y (k y : Addr) : (hFs k y).lookup ("years" : Str) = some (.ref y) := by
  unfold hFs
  rw [lookup_putF, if_pos rfl]
theorem hFs_no (k y : Addr) {m : Str} (h1 : ¬ m = Str.ofString "kinds") (h2 : ¬ m = Str.ofString "years") : (hFs k y).lookup m = none := by
  unfold hFs
  rw [lookup_putF, if_neg h2, lookup_putF, if_neg h1]
  rfl
/-- a History stands at p -/
structure HistAt (C CK : Addr) (H : Hp) (p : Addr) (ks : List (Str × Int)) (ys : List (List (List Str))) : Prop where
  ex : ∃ (dx kp yt : Addr), H p = some (.ins C dx (hFs kp yt)) ∧ KindsAt CK H kp (vv ks) ∧ Ys .tup H (.ref yt) ys
theorem HistAt.ob {C CK : Addr} {H : Hp} {p : Addr} {ks : List (Str × Int)} {ys : List (List (List Str))} (h : HistAt C CK H p ks ys) : ∃ (dx : Addr) (fs : List (Str × V)) (kp yt : Addr), H p = some (.ins C dx fs) ∧ fs.lookup ("kinds" : Str) = some (.ref kp) ∧ fs.lookup ("years" : Str) = some (.ref yt) ∧
    (∀ m : Str, ¬ m = Str.ofString "kinds" → ¬ m = Str.ofString "years" → fs.lookup m = none) ∧ KindsAt CK H kp (vv ks) ∧ Ys .tup H (.ref yt) ys := by
  obtain ⟨dx, kp, yt, h1, h2, h3⟩ := h.ex
  exact ⟨dx, _, kp, yt, h1, hFs_k kp yt, hFs_y kp yt, fun m a b => hFs_no kp yt a b, h2, h3⟩
theorem HistAt.keep {C CK : Addr} {H H' : Hp} {p : Addr} {ks : List (Str × Int)} {ys : List (List (List Str))} (h : HistAt C CK H p ks ys) (s : Same H H') : HistAt C CK H' p ks ys := by
  obtain ⟨dx, kp, yt, h1, h2, h3⟩ := h.ex
  exact ⟨dx, kp, yt, s _ _ h1, h2.keep s, h3.keep s⟩
theorem KindsAt.off {C : Addr} {H : Hp} {p k : Addr} {ps : List (Str × V)} {D dx : Addr} {fs : List (Str × V)} (h : KindsAt C H k ps) (hp : H p = some (.ins D dx fs)) (ne : k ≠ p) : KindsAt C (wo p H) k ps := by
  obtain ⟨dx, fs, r, n, d, ts, h1, h2, h3, h4, h5, h6, h7, h8, h9, h10⟩ := h.ob
  have o : ∀ {b : Addr} {u : HO}, H b = some u → (∀ C dx fs, u ≠ .ins C dx fs) → wo p H b = some u := fun e n => wo_at e fun z => by
    rw [z, hp] at e
    exact n _ _ _ (Option.some.inj e).symm
  exact ⟨dx, fs, r, n, d, ts, wo_at h1 ne, h2, h3, h4, h5, o h6 (fun _ _ _ z => nomatch z), h7, (fun i t q e1 e2 => o (h8 i t q e1 e2) (fun _ _ _ z => nomatch z)), o h9 (fun _ _ _ z => nomatch z), o h10 (fun _ _ _ z => nomatch z)⟩
end Kx

set_option maxHeartbeats 4000000
namespace Kx
open PySem PySem.Spec PyProof.Rows L2
/-- what walks a list or a tuple -/
def iSeq (K : PySem.W.Frag) (tl : TE) : TI := fun σ H R => tl σ H fun x H1 => ∃ a, x = .ref a ∧ (((∃ xs, SqL K H1 a xs) ∧ R (Itl K a) H1) ∨ ((∃ xs, SqT K H1 a xs) ∧ R (Itt K a) H1))
theorem pi_seq {X : Cx} {tg l : Expr} {tl : TE} (hl : PE X l tl) : PI X tg l (iSeq X.K tl) := by
  refine ⟨fun pins s σ H R I h => ?_⟩
  refine thn (hl.run pins s σ H _ I h) fun v s1 ⟨x, H1, I1, r1, q1⟩ => ?_
  obtain ⟨a, e, q⟩ := q1
  subst e
  cases r1
  have at_ : ∀ b ∈ [s1.heap.objs.size], FpOk X pins H1 b := fun b hb => by
    obtain rfl : b = s1.heap.objs.size := by simpa using hb
    exact I1.fpOk (Nat.le_refl _) (I1.hok.fresh (Nat.le_refl _))
  rcases q with ⟨⟨xs, hq⟩, q⟩ | ⟨⟨xs, hq⟩, q⟩
  · obtain ⟨its, rv, p, hz⟩ := I1.list hq
    exact wpAny_pyIter_list p.isList ⟨s1.heap.objs.size, [s1.heap.objs.size], _, _, H1, rfl, I1.kept (t' := s1.toks) fun b o e => Heap.get?_push_of_some _ e, turn_list a _, ⟨_, Heap.get?_push_size _ rfl, rfl, rfl⟩, at_, q⟩
  · obtain ⟨its, rv, p, hz⟩ := I1.tuple hq
    exact wpAny_pyIter_tuple (show s1.heap.IsTuple a its.toArray from p) ⟨s1.heap.objs.size, [s1.heap.objs.size], _, _, H1, rfl, I1.kept (t' := s1.toks) fun b o e => Heap.get?_push_of_some _ e, turn_tuple a _, ⟨_, Heap.get?_push_size _ rfl, rfl, rfl⟩, at_, q⟩
theorem IsSeq.both {K : PySem.W.Frag} {H : Hp} {b : Addr} {xs : List V} (h : IsSeq K H b xs) : (∀ H', Same H H' → SqL K H' b xs) ∨ (∀ H', Same H H' → SqT K H' b xs) := by
  cases h with
  | lst h => exact .inl fun H' s => SqL.of (s _ _ h)
  | tup h => exact .inr fun H' s => SqT.of (s _ _ h)
  | wr e c h => exact .inr fun H' s => h H'
/-- a for over such, all but the new standing still -/
theorem for_sq {K : PySem.W.Frag} {a : Addr} {xs : List V} {g : TG} {tb : TS} {D : Ends} {σ : L2.St} {H0 H : Hp} (q : IsSeq K H0 a xs) (Pv : Nat → L2.St → Hp → Prop) (h0 : Pv 0 σ H) (still : ∀ i σ H, Pv i σ H → Same H0 H)
    (hs : ∀ i x σ H, xs[i]? = some x → Pv i σ H → g x σ H fun σ2 H2 => tb { D with nx := Pv (i + 1), ct := Pv (i + 1), bk := D.nx } σ2 H2) (hd : ∀ σ H, Pv xs.length σ H → D.nx σ H) :
    ((∃ xs, SqL K H a xs) ∧ ∃ W : Nat → Nat → L2.St → Hp → Prop, (∃ m, W 0 m σ H) ∧ ∀ i m σ H, W i m σ H →
      ((Itl K a).stop i H ∧ D.nx σ H) ∨ ((Itl K a).go i H ∧ ∃ N : L2.St → Hp → Prop, (∀ σ' H', N σ' H' → ∃ m', m' < m ∧ W (i + 1) m' σ' H') ∧ ∀ x H', (Itl K a).yld i H x H' → g x σ H' fun σ2 H2 => tb { D with nx := N, ct := N, bk := D.nx } σ2 H2)) ∨
    ((∃ xs, SqT K H a xs) ∧ ∃ W : Nat → Nat → L2.St → Hp → Prop, (∃ m, W 0 m σ H) ∧ ∀ i m σ H, W i m σ H →
      ((Itt K a).stop i H ∧ D.nx σ H) ∨ ((Itt K a).go i H ∧ ∃ N : L2.St → Hp → Prop, (∀ σ' H', N σ' H' → ∃ m', m' < m ∧ W (i + 1) m' σ' H') ∧ ∀ x H', (Itt K a).yld i H x H' → g x σ H' fun σ2 H2 => tb { D with nx := N, ct := N, bk := D.nx } σ2 H2)) := by
  rcases q.both with q | q
  · exact .inl ⟨⟨xs, q _ (still _ _ _ h0)⟩, for_list Pv h0 (fun i σ H _ p => q _ (still _ _ _ p)) hs hd⟩
  · exact .inr ⟨⟨xs, q _ (still _ _ _ h0)⟩, for_tup Pv h0 (fun i σ H _ p => q _ (still _ _ _ p)) hs hd⟩
/-- what a comprehension over such is to show -/
def LcB (K : PySem.W.Frag) (a : Addr) (g : TG) (tt : TT) (te : TE) (vs : List Nat) (σ : L2.St) (H1 : Hp) (Qd : Addr → Hp → Prop) : Prop :=
  ((∃ xs, SqL K H1 a xs) ∧ ∀ D, H1 D = none → ∃ W : Nat → Nat → Hp → Prop, (∃ m, W 0 m (upd H1 D (.lst []))) ∧ ∀ i m H, W i m H → ((Itl K a).stop i H ∧ Qd D H) ∨ ((Itl K a).go i H ∧ ∃ Nx : Hp → Prop, (∀ H', Nx H' → ∃ m', m' < m ∧ W (i + 1) m' H') ∧
      ∀ x H', (Itl K a).yld i H x H' → g x (wipe σ vs) H' fun σ2 H2 => wipe σ2 vs = wipe σ vs ∧ tt σ2 H2 fun b H3 => if b = true then te σ2 H3 fun y H4 => ∃ acc, H4 D = some (.lst acc) ∧ acc.length < sizeLine ∧ Nx (upd H4 D (.lst (acc ++ [y]))) else Nx H3)) ∨
  ((∃ xs, SqT K H1 a xs) ∧ ∀ D, H1 D = none → ∃ W : Nat → Nat → Hp → Prop, (∃ m, W 0 m (upd H1 D (.lst []))) ∧ ∀ i m H, W i m H → ((Itt K a).stop i H ∧ Qd D H) ∨ ((Itt K a).go i H ∧ ∃ Nx : Hp → Prop, (∀ H', Nx H' → ∃ m', m' < m ∧ W (i + 1) m' H') ∧
      ∀ x H', (Itt K a).yld i H x H' → g x (wipe σ vs) H' fun σ2 H2 => wipe σ2 vs = wipe σ vs ∧ tt σ2 H2 fun b H3 => if b = true then te σ2 H3 fun y H4 => ∃ acc, H4 D = some (.lst acc) ∧ acc.length < sizeLine ∧ Nx (upd H4 D (.lst (acc ++ [y]))) else Nx H3))
theorem lc_sq {K : PySem.W.Frag} {a : Addr} {xs : List V} {g : TG} {tt : TT} {te : TE} {vs : List Nat} {σ : L2.St} {H0 H1 : Hp} {Qd : Addr → Hp → Prop} (q : IsSeq K H0 a xs) (s0 : Same H0 H1)
    (body : ∀ D, H1 D = none → ∃ Pv : Nat → Hp → Prop, Pv 0 (upd H1 D (.lst [])) ∧ (∀ i H, Pv i H → Same H0 H) ∧ (∀ i x H, xs[i]? = some x → Pv i H → g x (wipe σ vs) H fun σ2 H2 => wipe σ2 vs = wipe σ vs ∧ tt σ2 H2 fun b H3 =>
      if b = true then te σ2 H3 fun y H4 => ∃ acc, H4 D = some (.lst acc) ∧ acc.length < sizeLine ∧ Pv (i + 1) (upd H4 D (.lst (acc ++ [y]))) else Pv (i + 1) H3) ∧ ∀ H, Pv xs.length H → Qd D H) : LcB K a g tt te vs σ H1 Qd := by
  rcases q.both with q | q
  · exact .inl ⟨⟨xs, q _ s0⟩, fun D hD => by
      obtain ⟨Pv, p0, st, tu, af⟩ := body D hD
      exact lc_list (K := K) (a := a) (xs := xs) Pv p0 (fun i H _ p => q _ (st i H p)) tu af⟩
  · exact .inr ⟨⟨xs, q _ s0⟩, fun D hD => by
      obtain ⟨Pv, p0, st, tu, af⟩ := body D hD
      exact lc_tup (K := K) (a := a) (xs := xs) Pv p0 (fun i H _ p => q _ (st i H p)) tu af⟩
theorem woD {H1 H H4 : Hp} {D : Addr} {o : HO} (h : H1 D = none) (s : Same H1 H) (s4 : Same H H4) : Same H1 (upd H4 D o) := fun b u e => by
  rw [upd_ne (ne_of_none e h)]
  exact s4 b u (s b u e)
theorem woU {H H4 : Hp} {D : Addr} {o : HO} (s4 : Same H H4) : Same (wo D H) (wo D (upd H4 D o)) := wo_keep fun b u e n => by
  rw [upd_ne n]
  exact s4 b u e
/-- a comprehension without tests whose step makes y of x, G telling how (of all but the new list), the old things standing still -/
theorem lc_pure {K : PySem.W.Frag} {a : Addr} {xs : List V} {g : TG} {te : TE} {vs : List Nat} {σ : L2.St} {H0 H1 : Hp} {Qd : Addr → Hp → Prop} (G : Nat → V → Hp → Prop) (keep : ∀ i y H H', G i y H → Same H H' → G i y H') (q : IsSeq K H0 a xs) (s0 : Same H0 H1) (hz : xs.length ≤ 2000000)
    (step : ∀ D i x H (k : V → Hp → Prop), xs[i]? = some x → H1 D = none → Same H1 H → (∃ acc, H D = some (.lst acc)) → (∀ y H4, Same H H4 → G i y (wo D H4) → k y H4) → g x (wipe σ vs) H fun σ2 H2 => wipe σ2 vs = wipe σ vs ∧ te σ2 H2 k)
    (after : ∀ D ys H, H1 D = none → Same H1 H → H D = some (.lst ys) → ys.length = xs.length → (∀ i y, ys[i]? = some y → G i y (wo D H)) → Qd D H) (gm : ∀ x σ H (Q Q' : L2.St → Hp → Prop), (∀ σ H, Q σ H → Q' σ H) → g x σ H Q → g x σ H Q') : LcB K a g tYes te vs σ H1 Qd := by
  refine lc_sq q s0 fun D hD => ⟨fun i H => Same H1 H ∧ ∃ acc, H D = some (.lst acc) ∧ acc.length = i ∧ i ≤ xs.length ∧ ∀ j y, acc[j]? = some y → G j y (wo D H), ⟨sameUpd (Same.refl _) hD, [], upd_same, rfl, Nat.zero_le _, fun j y e => by cases e⟩, fun i H p => s0.trans p.1, ?_, ?_⟩
  · rintro i x H hi ⟨s1, acc, hd, al, _, ha⟩
    have lt : i < xs.length := (List.getElem?_eq_some_iff.mp hi).1
    refine gm _ _ _ _ _ (fun σ2 H2 z => ⟨z.1, ?_⟩) (step D i x H (fun y H4 => ∃ acc, H4 D = some (.lst acc) ∧ acc.length < sizeLine ∧ (Same H1 (upd H4 D (.lst (acc ++ [y]))) ∧ ∃ acc', upd H4 D (.lst (acc ++ [y])) D = some (.lst acc') ∧ acc'.length = i + 1 ∧ i + 1 ≤ xs.length ∧ ∀ j y', acc'[j]? = some y' → G j y' (wo D (upd H4 D (.lst (acc ++ [y])))))) hi hD s1 ⟨acc, hd⟩ fun y H4 s4 gy => ?_)
    · unfold tYes
      dsimp only
      rw [if_pos rfl]
      exact z.2
    · refine ⟨acc, s4 _ _ hd, line2 (by omega), woD hD s1 s4, acc ++ [y], upd_same, by simp [al], lt, fun j y' e => ?_⟩
      by_cases lj : j < acc.length
      · rw [List.getElem?_append_left lj] at e
        exact keep _ _ _ _ (ha j y' e) (woU s4)
      · have ej : j = i := by
          have := (List.getElem?_eq_some_iff.mp e).1
          simp at this
          omega
        subst ej
        rw [List.getElem?_append_right (by omega), al, Nat.sub_self] at e
        cases e
        exact keep _ _ _ _ gy (woU (Same.refl _))
  · rintro H ⟨s1, acc, hd, al, _, ha⟩
    exact after D acc H hD s1 hd al ha
end Kx

set_option maxHeartbeats 4000000
namespace Kx
open PySem L2
theorem call_lenK {X : Cx} {K : PySem.W.Frag} (h : X.K = K) : CallR X (.builtin "len") (fun xs H Q => ∃ p ys, xs = [.ref p] ∧ (SqL K H p ys ∨ SqT K H p ys) ∧ Q (.int ys.length) H) := by
  subst h
  exact call_len_seq
def spSeqK (K : PySem.W.Frag) : Sp := fun vs H Q _ => ∃ (x : V) (b : Bool), vs = [x] ∧ SeqQ K H x b ∧ ∀ H', Same H H' → Q (.bl b) H'
structure Hm (mg : Str → Option Value) : Prop where
  years : ∃ t, mg "MOST_YEARS" = some (.int 1000000 t)
  deeds : ∃ t, mg "MOST_DEEDS" = some (.int 1000000 t)
  sum : mg "sum" = none
def spLong (K : PySem.W.Frag) : Sp := fun vs H Q _ => ∃ (b : Addr) (xs : List V) (rs : List (Option (List (Option (List V))))), vs = [.ref b] ∧ IsSeq K H b xs ∧ Paired (YearIs K H) xs rs ∧ xs.length ≤ 1000003 ∧ ∀ H', Same H H' → Q (.bl (tooMany rs)) H'
def lensY (rs : List (Option (List (Option (List V))))) : List Int := rs.flatMap fun r => match r with
  | none => []
  | some l => [(l.length : Int)]
theorem lensY_sum : ∀ rs : List (Option (List (Option (List V)))), (lensY rs).sum = (countD rs : Nat)
  | [] => rfl
  | none :: rs => by
    have ih := lensY_sum rs
    have e : countD (none :: rs) = countD rs := by simp [countD, lenY]
    have e2 : lensY (none :: rs) = lensY rs := by simp [lensY]
    rw [e, e2, ih]
  | some l :: rs => by
    have ih := lensY_sum rs
    have e : countD (some l :: rs) = l.length + countD rs := by simp [countD, lenY]
    have e2 : lensY (some l :: rs) = (l.length : Int) :: lensY rs := by simp [lensY]
    rw [e, e2, List.sum_cons, ih]
    omega
theorem lensY_len : ∀ rs : List (Option (List (Option (List V)))), (lensY rs).length ≤ rs.length
  | [] => Nat.le_refl _
  | none :: rs => by
    have ih := lensY_len rs
    have e2 : lensY (none :: rs) = lensY rs := by simp [lensY]
    rw [e2, List.length_cons]
    omega
  | some l :: rs => by
    have ih := lensY_len rs
    have e2 : lensY (some l :: rs) = (l.length : Int) :: lensY rs := by simp [lensY]
    rw [e2, List.length_cons, List.length_cons]
    omega
theorem lensY_step {rs : List (Option (List (Option (List V))))} {i : Nat} {r : Option (List (Option (List V)))} (h : rs[i]? = some r) : lensY (rs.take (i + 1)) = lensY (rs.take i) ++ lensY [r] := by
  unfold lensY
  rw [take_succ_of h, List.flatMap_append]
section
variable {P : Program} {w : World} {K : PySem.W.Frag} {mg : Str → Option Value} {base : Heap}
theorem ok_seqK {f : Addr} {fd : FuncData} (F : Fun K "is_sequence" "is_sequence" sSeq f fd) (m : mg "is_sequence" = some (.ref f)) (B : Bm mg) : HasF P w K mg base "is_sequence" 1 ["thing"] (spSeqK K) := by
  refine ⟨f, fd, ?_, m, F.kp, F.binds fun _ _ _ _ _ _ us hl => match us, hl with | [_], _ => rfl⟩
  refine F.ok scSeq (fun vs H Q E h => ?_) (fun cdv A outer s H vs Q E hr h => ?_)
  · obtain ⟨a, b, rfl, _⟩ := h
    rfl
  · obtain ⟨x, b, rfl, ⟨n, hn, hb, ht⟩, k⟩ := h
    refine ⟨_, pss_one (ps_ret (pe_callB call_isiT (by rfl) B.isinstance (by decide +kernel) (pa_cons (pv 0) (pa_cons (pe_tup (pa_cons (pe_bltn (v := .ty "list") (by rfl) B.list (by decide +kernel) rfl) (pa_cons (pe_bltn (v := .ty "tuple") (by rfl) B.tuple (by decide +kernel) rfl) pa_nil))) pa_nil)))), ?_⟩
    refine ⟨_, rfl, by decide, fun t ht' => ?_⟩
    have s1 := sameUpd (o := .tup [.ty "list", .ty "tuple"]) (Same.refl H) ht'
    refine ⟨x, t, _, _, _, _, rfl, upd_same, .cons (.ty _) (.cons (.ty _) .nil), ht _ s1, kit_seq hn, ?_⟩
    rw [hb]
    exact k _ s1
theorem scLong : FnScope ["years", "year"] ["years"] (defScope sIsTooLong) := ⟨rfl, rfl, rfl, by decide +kernel, rfl, by decide +kernel, by decide +kernel⟩
theorem ok_long {f : Addr} {fd : FuncData} (F : Fun K "_is_too_long" "_is_too_long" sIsTooLong f fd) (m : mg "_is_too_long" = some (.ref f)) (T : Bl mg) (M : Hm mg) (Sq : HasF P w K mg base "is_sequence" 1 ["thing"] (spSeqK K)) : HasF P w K mg base "_is_too_long" 2 ["years"] (spLong K) := by
  refine ⟨f, fd, ?_, m, F.kp, F.binds fun _ _ _ _ _ _ us hl => match us, hl with | [_], _ => rfl⟩
  obtain ⟨f1, fd1, Sq⟩ := Sq
  obtain ⟨tY, mY⟩ := M.years; obtain ⟨tD, mD⟩ := M.deeds
  refine F.ok scLong (fun vs H Q E h => ?_) (fun cdv A outer s H vs Q E hr h => ?_)
  · obtain ⟨a, b, c, rfl, _⟩ := h
    rfl
  · obtain ⟨b, xs, rs, rfl, hq, hy, hz, k⟩ := h
    have lx := Paired.length hy
    refine ⟨_, (pss_cons (ps_if (pt_cmpR op_gt (pe_callB call_len_seq (by rfl) T.len PySem.boot_len (pa_cons (pv 0) pa_nil)) (pe_glob (v := .int 1000000) rfl mY ⟨_, rfl⟩) (nomark _)) (pss_one (ps_ret pe_bl)) pss_nil)
    (pss_one (ps_ret (pe_cmpR op_gt (pe_callB (cr_sum rfl) (by rfl) M.sum (by decide +kernel) (pa_cons (pe_lc (own := [("year", 1)]) (g := gName 1) (by rfl) scLong.nd (pi_seq (pv 0)) (blkOk_by (own := [("year", 1)]) (N := ["years", "year"]) (sc := defScope sIsTooLong) (by decide +kernel))
          (fun _ _ _ _ _ => pg_name (i := 1) scLong.nd rfl (Or.inl rfl)) (fun _ _ _ _ _ => pts_one (pt_val (pe_call Sq.G hr (by rfl) Sq.m Sq.kp Sq.b .nil pass0 (pa_cons (pv 1) pa_nil)))) (fun _ _ _ _ _ => (pe_callB (call_lenK (K := K) rfl) (by rfl) T.len PySem.boot_len (pa_cons (pv 1) pa_nil)))) pa_nil)) (pe_glob (v := .int 1000000) rfl mD ⟨_, rfl⟩) (nomark _))))), ?_⟩
    refine ⟨_, rfl, b, xs, rfl, hq.sq, _, _, rfl, rfl, _, rfl, ?_⟩
    refine ite2 (fun h1 => ?_) (fun h1 => ?_)
    · have h1 := of_decide_eq_true h1
      have q := k _ (Same.refl _)
      have e : tooMany rs = true := by
        unfold tooMany
        rw [decide_eq_true (show 1000000 < rs.length by omega)]
        rfl
      rw [e] at q
      exact q
    · have h1 : ¬ (1000000 : Int) < ((xs.length : Nat) : Int) := fun e => h1 (decide_eq_true e)
      refine ⟨_, rfl, b, rfl, lc_sq (g := gName 1) hq (Same.refl _) fun D hD => ⟨fun i H3 => Same H H3 ∧ H3 D = some (.lst ((lensY (rs.take i)).map V.int)), ⟨sameUpd (Same.refl _) hD, upd_same⟩, fun i H3 p => p.1, ?_, ?_⟩⟩
      · rintro i x H3 hi ⟨s3, hd⟩
        obtain ⟨r, hr', hyr⟩ := pr_get hy hi
        have t := lensY_step hr'
        have yr3 := hyr.keep s3
        refine ⟨rfl, _, rfl, x, r.isSome, rfl, yr3.sq, fun H4 s4 => ⟨_, rfl, ?_⟩⟩
        have yr4 := yr3.keep s4
        cases yr4 with
        | oth h l =>
          refine (if_neg (by decide)).mpr ⟨s3.trans s4, ?_⟩
          rw [t]
          refine (s4 _ _ hd).trans ?_
          simp [lensY]
        | seq h a l =>
          rename_i b' ys ls
          refine (if_pos rfl).mpr ⟨_, rfl, b', ys, rfl, h.sq, _, s4 _ _ hd, line2 ?_, ?_, ?_⟩
          · rw [List.length_map]
            have := lensY_len (rs.take i)
            rw [List.length_take] at this
            omega
          · exact woD hD s3 s4
          · rw [upd_same, t]
            simp [lensY, Paired.length a]
      · rintro H3 ⟨s3, hd⟩
        rw [List.take_of_length_le (by omega)] at hd
        refine ⟨D, lensY rs, rfl, SqL.of hd, _, _, rfl, rfl, ?_⟩
        have q := k _ s3
        have e : tooMany rs = decide ((1000000 : Int) < (lensY rs).sum) := by
          unfold tooMany
          rw [decide_eq_false (show ¬ 1000000 < rs.length by omega), Bool.false_or, lensY_sum]
          by_cases z : 1000000 < countD rs
          · rw [decide_eq_true z, decide_eq_true (show (1000000 : Int) < (countD rs : Nat) by omega)]
          · rw [decide_eq_false z, decide_eq_false (show ¬ (1000000 : Int) < (countD rs : Nat) by omega)]
        rw [e] at q
        exact q
end
end Kx

set_option maxHeartbeats 4000000
namespace Kx
open PySem L2
theorem pr_of {α β : Type} {F : α → β → Prop} : ∀ {xs : List α} {ys : List β}, xs.length = ys.length → (∀ (i : Nat) (x : α) (y : β), xs[i]? = some x → ys[i]? = some y → F x y) → Paired F xs ys
  | [], [], _, _ => .nil
  | [], _ :: _, e, _ => by cases e
  | _ :: _, [], e, _ => by cases e
  | _ :: _, _ :: _, e, f => .cons (f 0 _ _ rfl rfl) (pr_of (Nat.succ.inj e) fun i x y e1 e2 => f (i + 1) x y e1 e2)
theorem call_tupK {X : Cx} {K : PySem.W.Frag} (h : X.K = K) : CallR X (.type "tuple") (fun xs H Q => ∃ p ys, xs = [.ref p] ∧ ((SqL K H p ys ∧ ∀ l, H l = none → Q (.ref l) (upd H l (.tup ys))) ∨ (SqT K H p ys ∧ Q (.ref p) H))) := by
  subst h
  exact call_tuple_of
theorem fin3 {K : PySem.W.Frag} {C : Addr} {f1 f2 f3 : Str} (T : OexC K C) (n1 : PySem.W.findIn K (.ref C) f1 = some none) (n2 : PySem.W.findIn K (.ref C) f2 = some none) (n3 : PySem.W.findIn K (.ref C) f3 = some none) {H : Hp} {x y z : V} {Q : XK} (q : ∀ d H', H d = none → Same H H' → H' d = some (.xd [(f3, z), (f2, y), (f1, x)]) → Q (.ref C) (some d) H') :
    [x, y, z].length ≤ 1000 ∧ ∀ a, H a = none → spInit3 K C f1 f2 f3 (.ref a :: ([x, y, z] ++ [])) (upd H a (exo a C none)) (fun v H2 => v = .non ∧ ∃ (d : Addr) (fs : List (Str × V)), H2 a = some (exo a C (some d)) ∧ H2 d = some (exd d fs) ∧ H d = none ∧ Q (.ref C) (some d) (upd (del H2 a) d (.xd fs))) (fun _ _ _ => False) := by
  refine ⟨(by show 3 ≤ 1000; decide), fun a ha => ⟨a, x, y, z, rfl, T, n1, n2, n3, upd_same, fun d H' hd ne ea ed kp => ⟨rfl, d, _, ea, ed, ?_, ?_⟩⟩⟩
  · rw [upd_ne ne] at hd
    exact hd
  · rw [upd_ne ne] at hd
    refine q d _ hd (fun b o e => ?_) upd_same
    have nba := ne_of_none e ha
    rw [upd_ne (ne_of_none e hd), del_ne nba]
    exact kp b o (by rw [upd_ne nba]; exact e) nba
/-- the fields of a BadHistory -/
def bhF (i j : Int) (w : Str) : List (Str × V) := [("what", .str w), ("index", .int j), ("year", .int i)]
/-- what BadHistory is -/
structure BH (P : Program) (w : World) (K : PySem.W.Frag) (mg : Str → Option Value) (base : Heap) (CB fB : Addr) (fdB : FuncData) : Prop where
  E : ErC P w K mg base "BadHistory" ["self", "year", "index", "what"] CB fB fdB (spInit3 K CB "year" "index" "what")
  n1 : PySem.W.findIn K (.ref CB) "year" = some none
  n2 : PySem.W.findIn K (.ref CB) "index" = some none
  n3 : PySem.W.findIn K (.ref CB) "what" = some none
def kbOk (ks : List (Str × Int)) : Prop := ∀ q ∈ ks, 0 ≤ q.2 ∧ q.2 ≤ 2
def spYearOf (K : PySem.W.Frag) (CK CB : Addr) : Sp := fun vs H Q E => ∃ (kp : Addr) (i : Int) (y : V) (ks : List (Str × Int)) (r : Option (List (Option (List V)))), vs = [.ref kp, .int i, y] ∧ KindsAt CK H kp (vv ks) ∧ kbOk ks ∧ YearIs K H y r ∧
  match yearWord ks r with
  | some (j, w) => ∀ d H', H d = none → Same H H' → H' d = some (.xd (bhF i j w)) → E (.ref CB) (some d) H'
  | none => ∀ x ds H', r = some (dR ds) → Same H H' → Ds .tup H' x ds → Q x H'
section
variable {P : Program} {w : World} {K : PySem.W.Frag} {mg : Str → Option Value} {base : Heap}
abbrev nYearOf : List Str := ["kinds", "index", "year", "place", "deed", "word"]
theorem scYearOf : FnScope nYearOf ["kinds", "index", "year"] (defScope sYearOf) := ⟨rfl, rfl, rfl, by decide +kernel, rfl, by decide +kernel, by decide +kernel⟩
theorem ok_yearof {f CK CB fB gF : Addr} {fd fdB fdF : FuncData} (F : Fun K "_year_of" "_year_of" sYearOf f fd) (m : mg "_year_of" = some (.ref f)) (T : Bl mg) (B : Bm mg) (KX : KC K CK) (Sq : HasF P w K mg base "is_sequence" 1 ["thing"] (spSeqK K))
    (OF : OwnM P w K mg base CK "fault" 2 ["self", "deed"] (spFault CK) gF fdF) (EB : BH P w K mg base CB fB fdB) :
    FnOk P w K mg base (L2.CX P w) 3 f fd ["kinds", "index", "year"] (spYearOf K CK CB) := by
  obtain ⟨f1, fd1, Sq⟩ := Sq
  refine F.okX scYearOf (fun vs H Q E h => ?_) (fun cdv A outer s H vs Q E hr h => ?_)
  · obtain ⟨a, b, c, d, e, rfl, _⟩ := h
    rfl
  · obtain ⟨kp, i0, y, ks, r, rfl, hk, kb, hy, k⟩ := h
    have hr1 : Room 1 _ := hr.mono (by decide)
    refine ⟨_, (pss_cons (ps_if (pt_not (pt_val (pe_call Sq.G hr1 (by rfl) Sq.m Sq.kp Sq.b .nil pass0 (pa_cons (pv 2) pa_nil)))) (pss_one (ps_raise rfl (takes_of rfl rfl rfl rfl) (pmk_oex EB.E.T EB.E.iC EB.E.tI EB.E.G hr EB.E.b .nil pass0 (by rfl) EB.E.gC (pa_cons (pv 1) (pa_cons pe_int (pa_cons pe_str pa_nil)))))) pss_nil)
    (C8.pss_cut (ps_for (passes_of rfl) rfl (pi_enumB (by rfl) T.enumerate (pa_cons (pv 2) pa_nil)) (pg_tup rfl (pgs_cons (pg_name (i := 3) scYearOf.nd rfl (Or.inl rfl)) (pgs_cons (pg_name (i := 4) scYearOf.nd rfl (Or.inl rfl)) pgs_nil)))
        (pss_cons (ps_set (i := 5) scYearOf.nd rfl (Or.inl rfl) (pe_meth (pv 0) KX.cl OF.M OF.G hr OF.b .nil pass0 (pa_cons (pv 4) pa_nil)))
    (pss_one (ps_if (pt_cmpR op_notN (pv 5) pe_non (nomark _)) (pss_one (ps_raise rfl (takes_of rfl rfl rfl rfl) (pmk_oex EB.E.T EB.E.iC EB.E.tI EB.E.G hr EB.E.b .nil pass0 (by rfl) EB.E.gC (pa_cons (pv 1) (pa_cons (pv 3) (pa_cons (pv 5) pa_nil)))))) pss_nil))))
    (pss_one (ps_ret (pe_callTy call_tuple_of (by rfl) B.tuple (by decide +kernel) (pa_cons (pe_lc (own := [("deed", 4)]) (g := gName 4) (tt := tYes) (by rfl) scYearOf.nd (pi_seq (pv 2)) (blkOk_by (own := [("deed", 4)]) (N := nYearOf) (sc := defScope sYearOf) (by decide +kernel))
          (fun _ _ _ _ _ => pg_name (i := 4) scYearOf.nd rfl (Or.inl rfl)) (fun _ _ _ _ _ => pts_nil) (fun _ _ _ _ _ => (pe_callTy (call_tupK (K := K) rfl) (by rfl) B.tuple (by decide +kernel) (pa_cons (pv 4) pa_nil)))) pa_nil)))))), ?_⟩
    refine ⟨_, rfl, y, _, rfl, hy.sq, fun H1 s1 => ⟨_, rfl, ?_⟩⟩
    have hy1 := hy.keep s1
    cases hy1 with
    | oth h l =>
      refine iteT ⟨_, rfl, fin3 EB.E.T EB.n1 EB.n2 EB.n3 fun d H2 hd s2 e2 => k d H2 (s1.free hd) (s1.trans s2) e2⟩
    | seq h a l =>
    rename_i b xs rs
    refine iteF ?_
    have lx := Paired.length a
    have k : match scanD ks 0 rs with
      | some (j, w) => ∀ d H', H d = none → Same H H' → H' d = some (.xd (bhF i0 j w)) → E (.ref CB) (some d) H'
      | none => ∀ x ds H', some rs = some (dR ds) → Same H H' → Ds .tup H' x ds → Q x H' := k
    have hk1 := hk.keep s1
    refine ⟨fun σ H2 => ∃ v3 v4 v5 : Option V, σ = [some (.ref kp), some (.int i0), some (.ref b), v3, v4, v5] ∧ Same H1 H2 ∧ scanD ks 0 rs = none, ?_, ?_⟩
    · refine ⟨_, rfl, b, xs, rfl, for_enumB (K := K) (a := b) (xs := xs) (fun i σ H2 => ∃ v3 v4 v5 : Option V, σ = [some (.ref kp), some (.int i0), some (.ref b), v3, v4, v5] ∧ Same H1 H2 ∧ scanD ks 0 rs = scanD ks i (rs.drop i))
        ⟨none, none, none, rfl, Same.refl _, rfl⟩ ?_ ?_ ?_⟩
      · rcases h.both with h | h
        · exact .inl fun i σ H2 ⟨_, _, _, _, s, _⟩ => h _ s
        · exact .inr fun i σ H2 ⟨_, _, _, _, s, _⟩ => h _ s
      · rintro i x σ H2 t hi ⟨v3, v4, v5, rfl, s2, sc⟩ ht
        have s3 : Same H1 (upd H2 t (.tup [.int (i : Nat), x])) := sameUpd s2 ht
        obtain ⟨r, hr', dx⟩ := pr_get a hi
        rw [scanD_step hr'] at sc
        refine ⟨t, _, rfl, SqT.of upd_same, rfl, _, _, rfl, _, _, rfl, rfl, ?_⟩
        obtain ⟨pdx, pfs, _, _, _, _, g1, _, _, _, g5, _⟩ := (hk1.keep s3).get (K := K)
        refine ⟨_, rfl, kp, pdx, pfs, rfl, g1, g5 _ (by decide +kernel) (by decide +kernel) (by decide +kernel), ?_⟩
        refine ⟨_, rfl, kp, x, r, ks, rfl, hk1.keep s3, dx.keep s3, kb, fun H4 s4 => ?_⟩
        have s5 : Same H1 H4 := s3.trans s4
        cases e : deedWord ks r with
        | some w' =>
          rw [e] at sc
          rw [sc] at k
          refine ⟨_, rfl, rfl, _, rfl, iteT ?_⟩
          exact ⟨_, rfl, _, rfl, _, rfl, fin3 EB.E.T EB.n1 EB.n2 EB.n3 fun d H5 hd s6 e6 => k d H5 ((s1.trans s5).free hd) ((s1.trans s5).trans s6) e6⟩
        | none =>
          rw [e] at sc
          exact ⟨_, rfl, rfl, _, rfl, iteF ⟨_, _, _, rfl, s5, sc⟩⟩
      · rintro σ H2 ⟨v3, v4, v5, rfl, s2, sc⟩
        refine ⟨v3, v4, v5, rfl, s2, ?_⟩
        rw [sc, lx, List.drop_length]
        rfl
    rintro σ H2 ⟨v3, v4, v5, rfl, s2, sc⟩
    rw [sc] at k
    obtain ⟨ds, rfl⟩ := scanD_none sc
    have ld : xs.length = ds.length := by rw [lx]; simp [dR]
    refine ⟨_, rfl, b, rfl, lc_pure (g := gName 4) (fun j y H' => ∀ d, ds[j]? = some d → Ss .tup H' y d) (fun j y H' H'' q s d e => (q d e).keep s) h s2 (by omega) ?_ ?_ fun x σ H Q Q' q z => q _ _ z⟩
    · rintro D i x H3 k' hi hD s3 ⟨acc, hacc⟩ kk
      obtain ⟨r, hr', dx⟩ := pr_get a hi
      obtain ⟨d, hd, rfl⟩ : ∃ d, ds[i]? = some d ∧ r = some (d.map V.str) := by
        have hr' : (ds.map fun d => some (d.map V.str))[i]? = some r := hr'
        rw [List.getElem?_map] at hr'
        cases e : ds[i]? with
        | none => rw [e] at hr'; cases hr'
        | some d => rw [e] at hr'; exact ⟨d, rfl, (Option.some.inj hr').symm⟩
      have only : ∀ {y : V} {H' : Hp}, Ss .tup H' y d → ∀ d', ds[i]? = some d' → Ss .tup H' y d' := fun q d' e => by rw [hd] at e; cases e; exact q
      have dx3 := dx.keep (s2.trans s3)
      cases dx3 with
      | lst h t l =>
        rename_i b'
        refine ⟨rfl, _, rfl, b', _, rfl, .inl ⟨SqL.of h, fun l hl => kk _ _ (sameUpd (Same.refl _) hl) (only ⟨l, rfl, wo_at upd_same fun e => ?_⟩)⟩⟩
        rw [e, hacc] at hl
        cases hl
      | tup h t l =>
        rename_i b'
        refine ⟨rfl, _, rfl, b', _, rfl, .inr ⟨SqT.of h, kk _ _ (Same.refl _) (only ⟨b', rfl, wo_at h fun e => ?_⟩)⟩⟩
        rw [e, hacc] at h
        cases h
    · intro D ys H3 hD s3 hd ly g
      refine ⟨D, ys, rfl, .inl ⟨SqL.of hd, fun l hl => ?_⟩⟩
      refine k _ ds _ rfl (sameUpd ((s1.trans s2).trans s3) hl) ⟨l, ys, rfl, upd_same, pr_of (by omega) fun i y d e1 e2 => ?_⟩
      exact ((g i y e1 d e2).keep wo_same).keep (sameUpd (Same.refl _) hl)
end
end Kx

set_option maxHeartbeats 4000000
namespace Kx
open PySem L2
/-- what a comprehension over an enumerated list or tuple is to show -/
def LcE (J : It) (g : TG) (tt : TT) (te : TE) (vs : List Nat) (σ : L2.St) (H1 : Hp) (Qd : Addr → Hp → Prop) : Prop :=
  ∀ D, H1 D = none → ∃ W : Nat → Nat → Hp → Prop, (∃ m, W 0 m (upd H1 D (.lst []))) ∧ ∀ i m H, W i m H → (J.stop i H ∧ Qd D H) ∨ (J.go i H ∧ ∃ Nx : Hp → Prop, (∀ H', Nx H' → ∃ m', m' < m ∧ W (i + 1) m' H') ∧
      ∀ x H', J.yld i H x H' → g x (wipe σ vs) H' fun σ2 H2 => wipe σ2 vs = wipe σ vs ∧ tt σ2 H2 fun b H3 => if b = true then te σ2 H3 fun y H4 => ∃ acc, H4 D = some (.lst acc) ∧ acc.length < sizeLine ∧ Nx (upd H4 D (.lst (acc ++ [y]))) else Nx H3)
theorem lc_en {K : PySem.W.Frag} {a : Addr} {xs : List V} {g : TG} {tt : TT} {te : TE} {vs : List Nat} {σ : L2.St} {H0 H1 : Hp} {Qd : Addr → Hp → Prop} (q : IsSeq K H0 a xs) (s0 : Same H0 H1)
    (body : ∀ D, H1 D = none → ∃ Pv : Nat → Hp → Prop, Pv 0 (upd H1 D (.lst [])) ∧ (∀ i H, Pv i H → Same H0 H) ∧ (∀ i x H T, xs[i]? = some x → Pv i H → H T = none → g (.ref T) (wipe σ vs) (upd H T (.tup [.int (i : Nat), x])) fun σ2 H2 => wipe σ2 vs = wipe σ vs ∧ tt σ2 H2 fun b H3 =>
      if b = true then te σ2 H3 fun y H4 => ∃ acc, H4 D = some (.lst acc) ∧ acc.length < sizeLine ∧ Pv (i + 1) (upd H4 D (.lst (acc ++ [y]))) else Pv (i + 1) H3) ∧ ∀ H, Pv xs.length H → Qd D H) :
    (SqL K H1 a xs ∧ LcE (Ite K a) g tt te vs σ H1 Qd) ∨ (SqT K H1 a xs ∧ LcE (IteT K a) g tt te vs σ H1 Qd) := by
  rcases q.both with q | q
  · refine .inl ⟨q _ s0, fun D hD => ?_⟩
    obtain ⟨Pv, p0, st, tu, af⟩ := body D hD
    refine ⟨fun i m H => m + i = xs.length ∧ Pv i H, ⟨xs.length, by omega, p0⟩, fun i m H u => ?_⟩
    obtain ⟨e, u⟩ := u
    cases m with
    | zero =>
      obtain rfl : i = xs.length := by omega
      exact .inl ⟨⟨xs, q _ (st _ _ u), Nat.le_refl _⟩, af _ u⟩
    | succ m =>
      have lt : i < xs.length := by omega
      refine .inr ⟨⟨xs, xs[i], q _ (st _ _ u), List.getElem?_eq_getElem lt⟩, Pv (i + 1), fun H' u' => ⟨m, Nat.lt_succ_self _, by omega, u'⟩, fun x H' y => ?_⟩
      obtain ⟨T, z, rfl, free, rfl, same⟩ := y
      exact tu i z H T (same xs (q _ (st _ _ u))) u free
  · refine .inr ⟨q _ s0, fun D hD => ?_⟩
    obtain ⟨Pv, p0, st, tu, af⟩ := body D hD
    refine ⟨fun i m H => m + i = xs.length ∧ Pv i H, ⟨xs.length, by omega, p0⟩, fun i m H u => ?_⟩
    obtain ⟨e, u⟩ := u
    cases m with
    | zero =>
      obtain rfl : i = xs.length := by omega
      exact .inl ⟨⟨xs, q _ (st _ _ u), rfl⟩, af _ u⟩
    | succ m =>
      have lt : i < xs.length := by omega
      refine .inr ⟨⟨xs, xs[i], q _ (st _ _ u), List.getElem?_eq_getElem lt⟩, Pv (i + 1), fun H' u' => ⟨m, Nat.lt_succ_self _, by omega, u'⟩, fun x H' y => ?_⟩
      obtain ⟨T, z, rfl, free, rfl, same⟩ := y
      exact tu i z H T (same xs (q _ (st _ _ u))) u free
/-- what is known of the class History -/
structure HC (K : PySem.W.Frag) (C : Addr) : Prop where
  cl : Cls K C
  nK : NoAttr K C "kinds"
  nY : NoAttr K C "years"
  ca : PySem.W.findIn K (.ref C) "__class__" = some (some (.builtin "object.__class__"))
  cg : PySem.W.specialIn K (.builtin "object.__class__") "__get__" = some (some (.builtin "getset_descriptor.__get__"))
  ct : PySem.W.takesIn K (.builtin "object.__class__") = some true
  cm : PySem.W.mroIn K C (.type "object") = some true
/-- none of the kinds of other things is an instance of it -/
structure NotOf (K : PySem.W.Frag) (C : Addr) : Prop where
  non : PySem.W.kitOne K (.type "NoneType") (.ref C) = some false
  lst : PySem.W.kitOne K (.type "list") (.ref C) = some false
  str : PySem.W.kitOne K (.type "str") (.ref C) = some false
  tup : PySem.W.kitOne K (.type "tuple") (.ref C) = some false
theorem NotOf.kd {K : PySem.W.Frag} {C : Addr} (n : NotOf K C) {t : String} (h : t ∈ ["NoneType", "list", "str", "tuple"]) : PySem.W.kitOne K (.type t) (.ref C) = some false := by
  simp only [List.mem_cons, List.not_mem_nil, or_false] at h
  rcases h with h | h | h | h <;> subst h
  · exact n.non
  · exact n.lst
  · exact n.str
  · exact n.tup
def spHist (K : PySem.W.Frag) (C CK CB : Addr) : Sp := fun vs H Q E => ∃ (p dx : Addr) (k y : V) (r : Option (List (Option (List (Option (List V)))))), vs = [.ref p, k, y] ∧ H p = some (.ins C dx []) ∧ YearsIs K H y r ∧
  ((∃ n, Kd H k n ∧ n ∈ ["NoneType", "list", "str", "tuple"] ∧ ∀ d H', H d = none → Same H H' → H' d = some (.xd (bhF 0 0 "kinds")) → E (.ref CB) (some d) H') ∨
   (∃ kp ks, k = .ref kp ∧ kp ≠ p ∧ KindsAt CK H kp (vv ks) ∧ kbOk ks ∧ match yearsDue ks r with
    | some (i, j, w) => ∀ d H', H d = none → (∀ b o, H b = some o → b ≠ p → H' b = some o) → H' d = some (.xd (bhF (i : Nat) (j : Nat) w)) → E (.ref CB) (some d) H'
    | none => ∀ ys H', r = some (yR ys) → (∀ b o, H b = some o → b ≠ p → H' b = some o) → HistAt C CK H' p ks ys → Q .non H'))
section
variable {P : Program} {w : World} {K : PySem.W.Frag} {mg : Str → Option Value} {base : Heap}
abbrev nHist : List Str := ["self", "kinds", "years", "index", "year"]
theorem scHist : FnScope nHist ["self", "kinds", "years"] (defScope sHistory_init) := ⟨rfl, rfl, rfl, by decide +kernel, rfl, by decide +kernel, by decide +kernel⟩
theorem ok_hist {f C CK CB fB gY : Addr} {fd fdB fdY : FuncData} {dv : V} (F : FunD K "__init__" "History.__init__" (defArgs sHistory_init) (defBody sHistory_init) (defScope sHistory_init) [dv] [] f fd) (T : Bl mg) (B : Bm mg) (KX : KC K CK) (HX : HC K C) (NK : NotOf K CK) (mK : mg "Kinds" = some (.ref CK)) (Sq : HasF P w K mg base "is_sequence" 1 ["thing"] (spSeqK K)) (Lg : HasF P w K mg base "_is_too_long" 2 ["years"] (spLong K))
    (YO : FnOk P w K mg base (L2.CX P w) 3 gY fdY ["kinds", "index", "year"] (spYearOf K CK CB)) (mY : mg "_year_of" = some (.ref gY)) (kpY : PySem.W.keepIn K (.ref gY) = true) (bY : Binds K fdY ["kinds", "index", "year"] []) (EB : BH P w K mg base CB fB fdB) :
    FnOk P w K mg base (L2.CX P w) 4 f fd ["self", "kinds", "years"] (spHist K C CK CB) := by
  obtain ⟨f1, fd1, Sq⟩ := Sq; obtain ⟨f2, fd2, Lg⟩ := Lg
  refine F.ok scHist (fun vs H Q E h => ?_) (fun cdv A outer s H vs Q E hr h => ?_)
  · obtain ⟨a, b, c, d, e, rfl, _⟩ := h
    rfl
  · obtain ⟨p, dx, k0, y, r, rfl, hp, hy, k⟩ := h
    have hr1 : Room 1 _ := hr.mono (by decide)
    have hr2 : Room 2 _ := hr.mono (by decide)
    refine ⟨_, (pss_cons (ps_if (pt_not (pt_val (pe_callB call_isi (by rfl) B.isinstance (by decide +kernel) (pa_cons (pv 1) (pa_cons (pe_glob (v := .ref CK) rfl mK rfl) pa_nil))))) (pss_one (ps_raise rfl (takes_of rfl rfl rfl rfl) (pmk_oex EB.E.T EB.E.iC EB.E.tI EB.E.G hr2 EB.E.b .nil pass0 (by rfl) EB.E.gC (pa_cons pe_int (pa_cons pe_int (pa_cons pe_str pa_nil)))))) pss_nil)
    (pss_cons (ps_if (pt_not (pt_val (pe_call Sq.G hr1 (by rfl) Sq.m Sq.kp Sq.b .nil pass0 (pa_cons (pv 2) pa_nil)))) (pss_one (ps_raise rfl (takes_of rfl rfl rfl rfl) (pmk_oex EB.E.T EB.E.iC EB.E.tI EB.E.G hr2 EB.E.b .nil pass0 (by rfl) EB.E.gC (pa_cons pe_int (pa_cons pe_int (pa_cons pe_str pa_nil)))))) pss_nil)
    (pss_cons (ps_if (pt_val (pe_call Lg.G hr2 (by rfl) Lg.m Lg.kp Lg.b .nil pass0 (pa_cons (pv 2) pa_nil))) (pss_one (ps_raise rfl (takes_of rfl rfl rfl rfl) (pmk_oex EB.E.T EB.E.iC EB.E.tI EB.E.G hr2 EB.E.b .nil pass0 (by rfl) EB.E.gC (pa_cons pe_int (pa_cons pe_int (pa_cons pe_str pa_nil)))))) pss_nil)
    (pss_cons (ps_fld (pv 0) (pv 1) rfl)
    (pss_one (ps_fld (pv 0) (pe_callTy call_tuple_of (by rfl) B.tuple (by decide +kernel) (pa_cons (pe_lcX (own := [("index", 3), ("year", 4)]) (g := gTup K 2 (gCons (gName 3) (gCons (gName 4) gNil))) (tt := tYes) (te := fun E => tCallS (spYearOf K CK CB) (fun _ => E) _) rfl rfl (takes_of rfl rfl rfl rfl) (by rfl) scHist.nd (pi_enumB (by rfl) T.enumerate (pa_cons (pv 2) pa_nil)) (blkOk_by (own := [("index", 3), ("year", 4)]) (N := nHist) (sc := defScope sHistory_init) (by decide +kernel))
          (fun _ _ _ _ _ _ => pg_tup rfl (pgs_cons (pg_name scHist.nd rfl (.inl rfl)) (pgs_cons (pg_name scHist.nd rfl (.inl rfl)) pgs_nil))) (fun _ _ _ _ _ _ => pts_nil) (fun _ _ _ _ _ _ => pe_callS YO hr (by rfl) mY kpY bY (fun σ => passB σ) (pa_cons (pv 1) (pa_cons (pv 3) (pa_cons (pv 4) pa_nil))))) pa_nil)) rfl)))))), ?_⟩
    have off : ∀ {H' : Hp}, Same H H' → ∀ b o, H b = some o → b ≠ p → H' b = some o := fun s b o e _ => s b o e
    rcases k with ⟨n, kn, nin, k⟩ | ⟨kp, ks, rfl, kne, hk, kb, k⟩
    · refine ⟨_, rfl, k0, _, _, _, _, rfl, .own CK, kn.ty, NK.kd nin, _, rfl, iteT ?_⟩
      exact fin3 EB.E.T EB.n1 EB.n2 EB.n3 fun d H2 hd s2 e2 => k d H2 hd s2 e2
    obtain ⟨kdx, kfs, _, _, _, _, g1, _⟩ := hk.get (K := K)
    refine ⟨_, rfl, _, _, _, _, _, rfl, .own CK, KX.ty g1, kit_self, _, rfl, iteF ?_⟩
    refine ⟨_, rfl, y, _, rfl, hy.sq, fun H1 s1 => ⟨_, rfl, ?_⟩⟩
    have hy1 := hy.keep s1
    cases hy1 with
    | oth h l =>
      refine iteT (fin3 EB.E.T EB.n1 EB.n2 EB.n3 fun d H2 hd s2 e2 => ?_)
      have k : ∀ d H', H d = none → (∀ b o, H b = some o → b ≠ p → H' b = some o) → H' d = some (.xd (bhF 0 0 "years")) → E (.ref CB) (some d) H' := k
      exact k d H2 (s1.free hd) (off (s1.trans s2)) e2
    | seq h a l =>
    rename_i b xs rs
    refine iteF ?_
    have lx := Paired.length a
    refine ⟨_, rfl, b, xs, rs, rfl, h, a, l, fun H2 s2 => ⟨_, rfl, ?_⟩⟩
    have k : match (if tooMany rs = true then some (0, 0, Str.ofString "many") else scanY ks 0 rs) with
      | some (i, j, w) => ∀ d H', H d = none → (∀ b o, H b = some o → b ≠ p → H' b = some o) → H' d = some (.xd (bhF (i : Nat) (j : Nat) w)) → E (.ref CB) (some d) H'
      | none => ∀ ys H', some rs = some (yR ys) → (∀ b o, H b = some o → b ≠ p → H' b = some o) → HistAt C CK H' p ks ys → Q .non H' := k
    cases em : tooMany rs with
    | true =>
      rw [em, if_pos rfl] at k
      exact iteT (fin3 EB.E.T EB.n1 EB.n2 EB.n3 fun d H3 hd s3 e3 => k d H3 ((s1.trans s2).free hd) (off ((s1.trans s2).trans s3)) e3)
    | false =>
    rw [em, if_neg Bool.false_ne_true] at k
    refine iteF ?_
    have s02 := s1.trans s2
    have hp2 := s02 _ _ hp
    refine ⟨_, rfl, _, rfl, p, C, dx, [], rfl, hp2, HX.cl, HX.nK, (by show 0 < 1000; decide), ?_⟩
    obtain ⟨H3, eH3⟩ : ∃ H3, upd H2 p (.ins C dx (putF "kinds" (.ref kp) [])) = H3 := ⟨_, rfl⟩
    have hp3 : H3 p = some (.ins C dx (putF "kinds" (.ref kp) [])) := by rw [← eH3]; exact upd_same
    have w23 : Same (wo p H2) (wo p H3) := by rw [← eH3]; exact woU (Same.refl _)
    rw [show upd H2 p (.ins C dx (putF "kinds" (.ref kp) [])) = H3 from eH3]
    have hk3 : KindsAt CK (wo p H3) kp (vv ks) := ((hk.keep s02).off hp2 kne).keep w23
    have h3 : IsSeq K (wo p H3) b xs := ((h.keep s2).off hp2).keep w23
    have a3 : Paired (YearIs K (wo p H3)) xs rs := pr_imp a fun _ _ q => (((q.keep s2).off hp2).keep w23)
    have back : ∀ {H' : Hp}, Same (wo p H3) (wo p H') → ∀ b o, H b = some o → b ≠ p → H' b = some o := fun s b o e ne => wo_same _ _ (s b o (w23 b o (wo_at (s02 b o e) ne)))
    have h0 : ∀ {d : Addr} {H' : Hp}, (∀ b o, H b = some o → b ≠ p → H' b = some o) → H' d = none → H' p ≠ none → H d = none := fun {d H'} q hd hp' => by
      cases e : H d with
      | none => rfl
      | some o =>
        by_cases z : d = p
        · rw [z] at hd; exact absurd hd hp'
        · rw [q d o e z] at hd; cases hd
    refine ⟨_, rfl, b, xs, rfl, lc_en h3 wo_same fun D hD => ⟨fun i H4 => Same H3 H4 ∧ scanY ks 0 rs = scanY ks i (rs.drop i) ∧ ∃ acc ys, H4 D = some (.lst acc) ∧ rs.take i = yR ys ∧ Paired (Ds .tup (wo D H4)) acc ys ∧ acc.length = i ∧ i ≤ xs.length, ⟨sameUpd (Same.refl _) hD, rfl, [], [], upd_same, rfl, .nil, rfl, Nat.zero_le _⟩, fun i H4 q => wo_same.trans q.1, ?_, ?_⟩⟩
    · rintro i x H4 t hi ⟨s4, sc, acc, ys, hacc, ey, ad, al, _⟩ ht
      have lt : i < xs.length := (List.getElem?_eq_some_iff.mp hi).1
      have s5 : Same H3 (upd H4 t (.tup [.int (i : Nat), x])) := sameUpd s4 ht
      have tD : t ≠ D := (ne_of_none hacc ht).symm
      obtain ⟨r, hr', dx'⟩ := pr_get a3 hi
      rw [scanY_step hr'] at sc
      refine ⟨t, _, rfl, SqT.of upd_same, rfl, _, _, rfl, _, _, rfl, rfl, rfl, ?_⟩
      refine ⟨_, rfl, _, rfl, _, rfl, kp, (i : Nat), x, ks, r, rfl, (hk3.keep wo_same).keep s5, kb, (dx'.keep wo_same).keep s5, ?_⟩
      cases e : yearWord ks r with
      | some jw =>
        obtain ⟨j, w'⟩ := jw
        rw [e] at sc
        have sc : scanY ks 0 rs = some (i, j, w') := sc
        rw [sc] at k
        intro d H5 hd s6 e6
        have q := back (wo_mono (s5.trans s6))
        exact k d H5 (h0 (back (wo_mono s5)) hd (by rw [s5 _ _ hp3]; exact fun z => nomatch z)) q e6
      | none =>
        rw [e] at sc
        have sc : scanY ks 0 rs = scanY ks (i + 1) (rs.drop (i + 1)) := sc
        intro z ds H5 er s6 hz
        subst er
        have hD5 : H5 D = some (.lst acc) := s6 _ _ (by rw [upd_ne tD.symm]; exact hacc)
        have hz' : Ds .tup (wo D H5) z ds := by
          obtain ⟨a1, zs, e1, e2, e3⟩ := hz
          refine ⟨a1, zs, e1, wo_at e2 (fun q => by rw [q, hD5] at e2; cases e2), pr_imp e3 fun u v q => ?_⟩
          obtain ⟨a2, f1, f2⟩ := q
          exact ⟨a2, f1, wo_at f2 fun q => by rw [q, hD5] at f2; cases f2⟩
        refine ⟨acc, hD5, line2 (by omega), woD hD s5 s6, sc, acc ++ [z], ys ++ [ds], upd_same, ?_, ?_, by simp [al], lt⟩
        · rw [take_succ_of hr', ey]
          simp [yR]
        · have w5 : Same (wo D H4) (wo D (upd H5 D (.lst (acc ++ [z])))) := ((wo_mono (sameUpd (Same.refl _) ht)).trans (wo_mono s6)).trans (woU (Same.refl _))
          exact pr_app (pr_imp ad fun _ _ q => q.keep w5) (.cons (hz'.keep (woU (Same.refl _))) .nil)
    · rintro H4 ⟨s4, sc, acc, ys, hacc, ey, ad, al, _⟩
      have sc : scanY ks 0 rs = none := by
        rw [sc, lx, List.drop_length]
        rfl
      rw [List.take_of_length_le (by omega)] at ey
      subst ey
      rw [sc] at k
      have Dp : D ≠ p := (ne_of_none hp3 hD).symm
      refine ⟨D, acc, rfl, .inl ⟨SqL.of hacc, fun l hl => ?_⟩⟩
      have lp : l ≠ p := (ne_of_none (s4 _ _ hp3) hl).symm
      have hp5 : upd H4 l (.tup acc) p = some (.ins C dx (putF "kinds" (.ref kp) [])) := by rw [upd_ne lp.symm]; exact s4 _ _ hp3
      refine ⟨_, rfl, p, C, dx, _, rfl, hp5, HX.cl, HX.nY, (by show 1 < 1000; decide), ?_⟩
      have s5 : Same (wo p H4) (wo p (upd (upd H4 l (.tup acc)) p (.ins C dx (hFs kp l)))) := (wo_mono (sameUpd (Same.refl _) hl)).trans (woU (Same.refl _))
      have q := back ((wo_mono s4).trans s5)
      refine k ys _ rfl q ⟨dx, kp, l, upd_same, (hk3.keep (wo_mono s4)).keep (s5.trans wo_same), l, acc, rfl, by rw [upd_ne lp, upd_same], pr_imp ad fun u v z => ?_⟩
      have z : Ds .tup H4 u v := z.keep wo_same
      have off2 : Ds .tup (wo p H4) u v := by
        obtain ⟨a1, zs, e1, e2, e3⟩ := z
        refine ⟨a1, zs, e1, wo_at e2 (fun q => by rw [q, s4 _ _ hp3] at e2; cases e2), pr_imp e3 fun u v q => ?_⟩
        obtain ⟨a2, f1, f2⟩ := q
        exact ⟨a2, f1, wo_at f2 fun q => by rw [q, s4 _ _ hp3] at f2; cases f2⟩
      exact off2.keep (s5.trans wo_same)
end
end Kx

set_option maxHeartbeats 4000000
namespace Kx
open PySem L2
/-! what a history tells: persons, deeds -/
def add1 (acc : List Str) (z : Str) : List Str := if z ∈ acc then acc else acc ++ [z]
def addAll (acc zs : List Str) : List Str := zs.foldl add1 acc
theorem addAll_len : ∀ (zs acc : List Str), (addAll acc zs).length ≤ acc.length + zs.length
  | [], acc => by simp [addAll]
  | z :: zs, acc => by
    have ih := addAll_len zs (add1 acc z)
    have e : addAll acc (z :: zs) = addAll (add1 acc z) zs := rfl
    have l : (add1 acc z).length ≤ acc.length + 1 := by
      unfold add1
      split
      · omega
      · simp
    rw [e, List.length_cons]
    omega
theorem addAll_app (acc xs ys : List Str) : addAll acc (xs ++ ys) = addAll (addAll acc xs) ys := List.foldl_append
theorem addAll_one (acc xs : List Str) (z : Str) : addAll acc (xs ++ [z]) = add1 (addAll acc xs) z := by
  rw [addAll_app]
  rfl
def deedP (d : List Str) : List Str := d.tail
def yearP (y : List (List Str)) : List Str := y.flatMap deedP
def allP (ys : List (List (List Str))) : List Str := ys.flatMap yearP
def persOf (ys : List (List (List Str))) : List Str := addAll [] (allP ys)
theorem fm_take {α β : Type} {f : α → List β} {xs : List α} {i : Nat} {x : α} (h : xs[i]? = some x) : (xs.take (i + 1)).flatMap f = (xs.take i).flatMap f ++ f x := by
  rw [take_succ_of h, List.flatMap_append]
  simp
theorem fm_len {α β : Type} {f : α → List β} : ∀ (xs : List α) (i : Nat), ((xs.take i).flatMap f).length ≤ (xs.flatMap f).length
  | [], i => by simp
  | x :: xs, 0 => by simp
  | x :: xs, i + 1 => by
    have ih := fm_len (f := f) xs i
    simp only [List.take_succ_cons, List.flatMap_cons, List.length_append]
    omega
theorem fm_pre {α β : Type} {f : α → List β} {xs : List α} {i : Nat} {x : α} (h : xs[i]? = some x) : ((xs.take i).flatMap f ++ f x).length ≤ (xs.flatMap f).length := by
  rw [← fm_take h]
  exact fm_len xs (i + 1)
/-- the dict of the persons -/
def pD (ls : List Str) : List (Key × V) := ls.map fun z => (Sum.inr z, V.bl true)
theorem pD_any (ls : List Str) (z : Str) : ((pD ls).any fun kv => decide (kv.1 = (Sum.inr z : Key))) = decide (z ∈ ls) := by
  unfold pD
  rw [List.any_map]
  induction ls with
  | nil => rfl
  | cons y ls ih =>
    rw [List.any_cons, ih]
    by_cases e : y = z
    · subst e
      simp
    · have e2 : ¬ z = y := fun h => e h.symm
      have e3 : ¬ (Sum.inr y : Key) = Sum.inr z := fun h => e (Sum.inr.inj h)
      simp [e2, e3]
theorem pD_put (ls : List Str) (z : Str) : putK (pD ls) (Sum.inr z : Key) (V.bl true) = pD (add1 ls z) := by
  unfold putK add1
  rw [pD_any]
  by_cases e : z ∈ ls
  · rw [if_pos (decide_eq_true e), if_pos e]
    unfold pD
    rw [List.map_map]
    refine List.map_congr_left fun y _ => ?_
    show (if (Sum.inr y : Key) = Sum.inr z then _ else _) = _
    split <;> rfl
  · rw [if_neg (by rw [decide_eq_false e]; decide), if_neg e]
    unfold pD
    rw [List.map_append]
    rfl
theorem pD_keys (ls : List Str) : ((pD ls).map fun kv => kV kv.1) = ls.map V.str := by
  unfold pD
  rw [List.map_map]
  rfl
def dCount (ys : List (List (List Str))) : Nat := (ys.map List.length).sum
def spPersons1 (C CK : Addr) : Sp := fun vs H Q _ => ∃ (p : Addr) (ks : List (Str × Int)) (ys : List (List (List Str))), vs = [.ref p] ∧ HistAt C CK H p ks ys ∧ (∀ y ∈ ys, ∀ d ∈ y, d ≠ []) ∧ (allP ys).length ≤ 2000000 ∧ ∀ q H', Same H H' → H q = none → H' q = some (.tup ((persOf ys).map V.str)) → Q (.ref q) H'
def spCount (C CK : Addr) : Sp := fun vs H Q _ => ∃ (p : Addr) (ks : List (Str × Int)) (ys : List (List (List Str))), vs = [.ref p] ∧ HistAt C CK H p ks ys ∧ ys.length ≤ 2000000 ∧ ∀ H', Same H H' → Q (.int (dCount ys : Nat)) H'
def spHLen (C CK : Addr) : Sp := fun vs H Q _ => ∃ (p : Addr) (ks : List (Str × Int)) (ys : List (List (List Str))), vs = [.ref p] ∧ HistAt C CK H p ks ys ∧ Q (.int (ys.length : Nat)) H
/-- where the years stand -/
def YearsOf (fs : List (Str × V)) (t : Addr) (_ : List V) : Prop := fs.lookup ("years" : Str) = some (.ref t)
section
variable {P : Program} {w : World} {K : PySem.W.Frag} {mg : Str → Option Value} {base : Heap}
theorem scHLen : FnScope ["self"] ["self"] (defScope sHistory_len) := ⟨rfl, rfl, rfl, by decide +kernel, rfl, by decide +kernel, by decide +kernel⟩
theorem ok_hlen {f C CK : Addr} {fd : FuncData} (F : Fun K "__len__" "History.__len__" sHistory_len f fd) (T : Bl mg) (HX : HC K C) : FnOk P w K mg base CX0 1 f fd ["self"] (spHLen C CK) := by
  refine F.ok scHLen (fun vs H Q E h => ?_) (fun cdv A outer s H vs Q E hr h => ?_)
  · obtain ⟨p, ks, ys, rfl, _⟩ := h
    rfl
  · obtain ⟨p, ks, ys, rfl, hk, k⟩ := h
    obtain ⟨dx, fs, kp, yt, h1, h2, h3, h4, h5, a, xs, ea, h6, h7⟩ := hk.ob
    cases ea
    refine ⟨_, pss_one (ps_ret (pe_callB call_len_seq (by rfl) T.len PySem.boot_len (pa_cons (pe_fld (pv 0) rfl) pa_nil))), ?_⟩
    refine ⟨_, rfl, p, C, dx, fs, _, rfl, h1, HX.cl, HX.nY, h3, yt, _, rfl, .inr (SqT.of h6), ?_⟩
    rw [Paired.length h7]
    exact k
theorem scHIter : FnScope ["self"] ["self"] (defScope sHistory_iter) := ⟨rfl, rfl, rfl, by decide +kernel, rfl, by decide +kernel, by decide +kernel⟩
theorem ok_hiter {f C : Addr} {fd : FuncData} (F : Fun K "__iter__" "History.__iter__" sHistory_iter f fd) (mI : mg "iter" = none) (HX : HC K C) : FnA P w K mg base CX0 1 f fd ["self"] (spIterT K C YearsOf) := by
  refine okA F scHIter (fun A s vs H Q E h => ?_) (fun cdv A outer s H vs Q E hr h => ?_)
  · obtain ⟨a, dx, fs, rfl, _⟩ := h
    rfl
  · obtain ⟨a, dx, fs, rfl, h1, t, zs, hT, hq, k⟩ := h
    refine ⟨_, pss_one (ps_ret (pe_callB call_iterT (by rfl) mI (by decide +kernel) (pa_cons (pe_fld (pv 0) rfl) pa_nil))), ?_⟩
    exact ⟨_, rfl, a, C, dx, fs, _, rfl, h1, HX.cl, HX.nY, hT, t, zs, rfl, hq, fun it e1 e2 => k it e1 e2⟩
abbrev nPers1 : List Str := ["self", "found", "year", "deed", "person"]
theorem scPers1 : FnScope nPers1 ["self"] (defScope sHistory_persons) := ⟨rfl, rfl, rfl, by decide +kernel, rfl, by decide +kernel, by decide +kernel⟩
theorem ok_pers {f C CK : Addr} {fd : FuncData} (F : Fun K "persons" "History.persons" sHistory_persons f fd) (B : Bm mg) (HX : HC K C) : FnOk P w K mg base CX0 1 f fd ["self"] (spPersons1 C CK) := by
  refine F.ok scPers1 (fun vs H Q E h => ?_) (fun cdv A outer s H vs Q E hr h => ?_)
  · obtain ⟨p, ks, ys, rfl, _⟩ := h
    rfl
  · obtain ⟨p, ks, ys, rfl, hk, ne, lz, k⟩ := h
    have hu := hu_of hr
    obtain ⟨dx, fs, kp, yt, h1, h2, h3, h4, h5, a, xs, ea, h6, h7⟩ := hk.ob
    cases ea
    have lx := Paired.length h7
    refine ⟨_, (pss_cons (ps_set (i := 1) scPers1.nd rfl (Or.inl rfl) pe_dnewK)
    (pss_cons (ps_for PassesOwn.never rfl (pi_tup (pe_fld (pv 0) rfl)) (pg_name (i := 2) scPers1.nd rfl (.inl rfl))
        (pss_one (ps_for PassesOwn.never rfl (pi_tup (pv 2)) (pg_name (i := 3) scPers1.nd rfl (.inl rfl))
          (pss_one (ps_for PassesOwn.never rfl (pi_tup (pe_slice sl_tup (pv 3) (po_some pe_int) po_none)) (pg_name (i := 4) scPers1.nd rfl (.inl rfl))
            (pss_one (ps_dput hu (pv 1) (pv 4) pe_bl rfl)))))))
    (pss_one (ps_ret (pe_callTy (call_tuple_dK rfl) (by rfl) B.tuple (by decide +kernel) (pa_cons (pv 1) pa_nil)))))), ?_⟩
    intro f hf
    have s0 : Same H (upd H f (.dK [])) := sameUpd (Same.refl _) hf
    have fp : f ≠ p := (ne_of_none h1 hf).symm
    refine ⟨_, rfl, p, C, dx, fs, _, rfl, s0 _ _ h1, HX.cl, HX.nY, h3, ?_⟩
    -- what stands: all but f as it was
    refine ⟨yt, rfl, ⟨_, SqT.of (s0 _ _ h6)⟩, for_tup (K := K) (a := yt) (xs := xs) (fun i σ H2 => ∃ v2 v3 v4 : Option V, σ = [some (.ref p), some (.ref f), v2, v3, v4] ∧ Same H H2 ∧ H2 f = some (.dK (pD (addAll [] ((ys.take i).flatMap yearP)))))
      ⟨none, none, none, rfl, s0, upd_same⟩ (fun i σ H2 _ ⟨_, _, _, _, s, _⟩ => SqT.of (s _ _ h6)) ?_ ?_⟩
    · rintro i x σ H2 hi ⟨v2, v3, v4, rfl, s2, hd2⟩
      obtain ⟨ds, hds, b, zs, rfl, hb, pz⟩ := pr_get h7 hi
      have memy : ds ∈ ys := List.mem_of_getElem? hds
      refine ⟨_, rfl, b, rfl, ⟨_, SqT.of (s2 _ _ hb)⟩, for_tup (K := K) (a := b) (xs := zs) (fun j σ H3 => ∃ v3 v4 : Option V, σ = [some (.ref p), some (.ref f), some (.ref b), v3, v4] ∧ Same H H3 ∧ H3 f = some (.dK (pD (addAll [] ((ys.take i).flatMap yearP ++ (ds.take j).flatMap deedP)))))
        ⟨v3, v4, rfl, s2, by simpa using hd2⟩ (fun j σ H3 _ ⟨_, _, _, s, _⟩ => SqT.of (s _ _ hb)) ?_ ?_⟩
      · rintro j x σ H3 hj ⟨v3, v4, rfl, s3, hd3⟩
        obtain ⟨d, hd, c, rfl, hc⟩ := pr_get pz hj
        obtain ⟨z0, zr, rfl⟩ : ∃ z0 zr, d = z0 :: zr := by
          cases d with
          | nil => exact absurd rfl (ne ds memy [] (List.mem_of_getElem? hd))
          | cons z0 zr => exact ⟨z0, zr, rfl⟩
        refine ⟨_, rfl, _, rfl, c, _, rfl, SqT.of (s3 _ _ hc), whole _ _, fun q hq => ?_⟩
        have s4 : Same H (upd H3 q (.tup (cutV ((z0 :: zr).map V.str) (some 1) none))) := sameUpd s3 hq
        have qf : q ≠ f := (ne_of_none hd3 hq).symm
        have ecut : cutV ((z0 :: zr).map V.str) (some 1) none = zr.map V.str := by rw [List.map_cons, cut1]
        refine ⟨q, rfl, ⟨_, SqT.of upd_same⟩, for_tup (K := K) (a := q) (xs := cutV ((z0 :: zr).map V.str) (some 1) none) (fun m σ H4 => ∃ v4 : Option V, σ = [some (.ref p), some (.ref f), some (.ref b), some (.ref c), v4] ∧ Same H H4 ∧ H4 q = some (.tup (cutV ((z0 :: zr).map V.str) (some 1) none)) ∧ H4 f = some (.dK (pD (addAll [] ((ys.take i).flatMap yearP ++ (ds.take j).flatMap deedP ++ zr.take m)))))
          ⟨v4, rfl, s4, upd_same, by rw [upd_ne qf.symm]; simpa using hd3⟩ (fun m σ H4 _ ⟨_, _, _, h, _⟩ => SqT.of h) ?_ ?_⟩
        · rintro m x σ H4 hm ⟨v4, rfl, s5, hq5, hd5⟩
          rw [ecut, List.getElem?_map] at hm
          obtain ⟨z, hz, rfl⟩ : ∃ z, zr[m]? = some z ∧ x = V.str z := by
            cases e : zr[m]? with
            | none => rw [e] at hm; cases hm
            | some z => rw [e] at hm; exact ⟨z, rfl, (Option.some.inj hm).symm⟩
          have bound : (pD (addAll [] ((ys.take i).flatMap yearP ++ (ds.take j).flatMap deedP ++ zr.take m))).length < sizeLine := by
            unfold pD
            rw [List.length_map]
            refine line2 ?_
            have b1 := addAll_len ((ys.take i).flatMap yearP ++ (ds.take j).flatMap deedP ++ zr.take m) []
            have b2 := fm_pre (f := yearP) hds
            have b3 : ((ds.take j).flatMap deedP ++ deedP (z0 :: zr)).length ≤ (yearP ds).length := fm_pre (f := deedP) hd
            have b4 : (deedP (z0 :: zr)).length = zr.length := rfl
            have b5 : (allP ys).length = (ys.flatMap yearP).length := rfl
            simp only [List.length_append, List.length_take, List.length_nil] at b1 b2 b3 ⊢
            omega
          refine ⟨_, rfl, _, rfl, f, _, rfl, DPut.k (k := Sum.inr z) hd5 bound, some (.str z), rfl, fun c' o e => ?_, ?_, ?_⟩
          · rw [upd_ne (ne_of_none e hf)]
            exact s5 c' o e
          · rw [upd_ne qf]
            exact hq5
          · rw [upd_same, pD_put, take_succ_of hz, ← List.append_assoc, addAll_one]
        · rintro σ H4 ⟨v4, rfl, s5, _, hd5⟩
          refine ⟨_, _, rfl, s5, ?_⟩
          rw [ecut, List.length_map, List.take_length, List.append_assoc] at hd5
          rw [hd5, fm_take hd]
          rfl
      · rintro σ H3 ⟨v3, v4, rfl, s3, hd3⟩
        refine ⟨_, _, _, rfl, s3, ?_⟩
        rw [hd3, Paired.length pz, List.take_length, fm_take hds]
        rfl
    · rintro σ H2 ⟨v2, v3, v4, rfl, s2, hd2⟩
      rw [lx, List.take_length] at hd2
      refine ⟨_, rfl, f, _, rfl, hd2, fun q hq => k q _ (sameUpd s2 hq) (s2.free hq) ?_⟩
      rw [upd_same, pD_keys]
      rfl
end
end Kx

set_option maxHeartbeats 4000000
namespace Kx
open PySem L2
/-! years as data; == of histories -/
def dD (d : List Str) : PyData := .tuple (d.map PyData.str)
def dDs (y : List (List Str)) : PyData := .tuple (y.map dD)
def dYs (ys : List (List (List Str))) : PyData := .tuple (ys.map dDs)
theorem eqvAll_map {α : Type} [DecidableEq α] {f : α → PyData} (hf : ∀ a b, PyData.eqv (f a) (f b) = decide (a = b)) : ∀ xs ys : List α, PyData.eqvAll (xs.map f) (ys.map f) = decide (xs = ys)
  | [], [] => rfl
  | [], _ :: _ => rfl
  | _ :: _, [] => rfl
  | x :: xs, y :: ys => by
    show (PyData.eqv (f x) (f y) && PyData.eqvAll (xs.map f) (ys.map f)) = _
    rw [hf, eqvAll_map hf xs ys]
    by_cases h1 : x = y
    · by_cases h2 : xs = ys
      · simp [h1, h2]
      · simp [h1, h2]
    · simp [h1]
theorem eqv_str (a b : Str) : PyData.eqv (.str a) (.str b) = decide (a = b) := by
  by_cases h : a = b
  · subst h
    simp [PyData.eqv]
  · simp [PyData.eqv, h]
theorem eqv_dD (a b : List Str) : PyData.eqv (dD a) (dD b) = decide (a = b) := by
  show PyData.eqvAll (a.map PyData.str) (b.map PyData.str) = _
  exact eqvAll_map eqv_str a b
theorem eqv_dDs (a b : List (List Str)) : PyData.eqv (dDs a) (dDs b) = decide (a = b) := by
  show PyData.eqvAll (a.map dD) (b.map dD) = _
  exact eqvAll_map eqv_dD a b
theorem eqv_dYs (a b : List (List (List Str))) : PyData.eqv (dYs a) (dYs b) = decide (a = b) := by
  show PyData.eqvAll (a.map dDs) (b.map dDs) = _
  exact eqvAll_map eqv_dDs a b
theorem lay_map {α : Type} {f : α → PyData} {n : Nat} : ∀ {xs : List α}, (∀ x ∈ xs, PyData.canLay0 (f x) = true ∧ PyData.depth (f x) ≤ n) → PyData.canLayAll0 (xs.map f) = true ∧ PyData.depthAll (xs.map f) ≤ n
  | [], _ => ⟨rfl, Nat.zero_le _⟩
  | x :: xs, h => by
    obtain ⟨h1, h2⟩ := h x (.head _)
    obtain ⟨h3, h4⟩ := lay_map (xs := xs) fun y m => h y (.tail _ m)
    refine ⟨?_, Nat.max_le.mpr ⟨h2, h4⟩⟩
    show (PyData.canLay0 (f x) && PyData.canLayAll0 (xs.map f)) = true
    rw [h1, h3]
    rfl
theorem lay_dD {d : List Str} (h : ∀ z ∈ d, PyData.strOk z = true) : PyData.canLay0 (dD d) = true ∧ PyData.depth (dD d) ≤ 1 := by
  obtain ⟨a, b⟩ := lay_map (f := PyData.str) (n := 0) (xs := d) fun z m => ⟨h z m, Nat.le_refl _⟩
  exact ⟨a, by show PyData.depthAll (d.map PyData.str) + 1 ≤ 1; omega⟩
theorem lay_dDs {y : List (List Str)} (h : ∀ d ∈ y, ∀ z ∈ d, PyData.strOk z = true) : PyData.canLay0 (dDs y) = true ∧ PyData.depth (dDs y) ≤ 2 := by
  obtain ⟨a, b⟩ := lay_map (f := dD) (n := 1) (xs := y) fun d m => lay_dD (h d m)
  exact ⟨a, by show PyData.depthAll (y.map dD) + 1 ≤ 2; omega⟩
def OkY (ys : List (List (List Str))) : Prop := ∀ y ∈ ys, ∀ d ∈ y, ∀ z ∈ d, PyData.strOk z = true
theorem shaped_dYs {ys : List (List (List Str))} (h : OkY ys) : SeqAt.shaped (dYs ys) = true := by
  obtain ⟨a, b⟩ := lay_map (f := dDs) (n := 2) (xs := ys) fun y m => lay_dDs (h y m)
  unfold SeqAt.shaped
  rw [Bool.and_eq_true]
  refine ⟨a, decide_eq_true ?_⟩
  show PyData.depthAll (ys.map dDs) + 1 ≤ 64
  omega
theorem dpAll_of {K : PySem.W.Frag} {H : Hp} {α : Type} {F : V → α → Prop} {f : α → PyData} (h : ∀ x a, F x a → Dp K H x (f a)) : ∀ {xs : List V} {as : List α}, Paired F xs as → DpAll K H xs (as.map f)
  | _, _, .nil => .nil
  | _, _, .cons a t => .cons (h _ _ a) (dpAll_of h t)
theorem dp_map {K : PySem.W.Frag} {H : Hp} : ∀ zs : List Str, DpAll K H (zs.map V.str) (zs.map PyData.str)
  | [] => .nil
  | z :: zs => .cons (.str z) (dp_map zs)
theorem Ys.dp {K : PySem.W.Frag} {H : Hp} {x : V} {ys : List (List (List Str))} (h : Ys .tup H x ys) : Dp K H x (dYs ys) := by
  obtain ⟨a, xs, rfl, h, p⟩ := h
  refine .tup (SqT.of h) (dpAll_of (fun x y q => ?_) p)
  obtain ⟨b, zs, rfl, g, p2⟩ := q
  refine .tup (SqT.of g) (dpAll_of (fun x d q => ?_) p2)
  obtain ⟨c, rfl, g⟩ := q
  exact .tup (SqT.of g) (dp_map d)
def OkK (ks : List (Str × Int)) : Prop := ∀ q ∈ ks, PyData.strOk q.1 = true
def spHEq (C CK : Addr) : Sp := fun vs H Q _ => ∃ (p : Addr) (y : V) (ks : List (Str × Int)) (ys : List (List (List Str))), vs = [.ref p, y] ∧ HistAt C CK H p ks ys ∧ OkK ks ∧ OkY ys ∧
  ((∃ (b : Addr) (ls : List (Str × Int)) (zs : List (List (List Str))), y = .ref b ∧ HistAt C CK H b ls zs ∧ OkK ls ∧ OkY zs ∧ Q (.bl (decide (ks = ls ∧ ys = zs))) H) ∨ ∃ (b : Addr) (zs : List V), y = .ref b ∧ H b = some (.tup zs) ∧ Q (.bl false) H)
def wholeN (y : V) (n : Nat) : Option Nat := match y with
  | .int i => if 0 ≤ i ∧ i ≤ (n : Int) then some i.toNat else none
  | _ => none
theorem wholeN_some {y : V} {n m : Nat} (h : wholeN y n = some m) : y = .int (m : Nat) ∧ m ≤ n := by
  cases y with
  | int i =>
    have h : (if 0 ≤ i ∧ i ≤ (n : Int) then some i.toNat else none) = some m := h
    by_cases q : 0 ≤ i ∧ i ≤ (n : Int)
    · rw [if_pos q] at h
      have e := Option.some.inj h
      exact ⟨by rw [← e]; congr 1; omega, by omega⟩
    · rw [if_neg q] at h; cases h
  | _ => cases h
theorem wholeN_V (y : V) (n : Nat) : wholeV y 0 (n : Int) = (wholeN y n).isSome := by
  cases y with
  | int i =>
    show (decide (0 ≤ i) && decide (i ≤ (n : Int))) = (if 0 ≤ i ∧ i ≤ (n : Int) then some i.toNat else none).isSome
    by_cases q : 0 ≤ i ∧ i ≤ (n : Int)
    · rw [if_pos q, decide_eq_true q.1, decide_eq_true q.2]
      rfl
    · rw [if_neg q]
      by_cases q1 : 0 ≤ i
      · rw [decide_eq_false (show ¬ i ≤ (n : Int) from fun h => q ⟨q1, h⟩), Bool.and_false]
        rfl
      · rw [decide_eq_false q1]
        rfl
  | _ => rfl
def spCut (C CK CY : Addr) (f : Nat → List (List (List Str)) → List (List (List Str))) : Sp := fun vs H Q E => ∃ (p : Addr) (y : V) (n : String) (ks : List (Str × Int)) (ys : List (List (List Str))), vs = [.ref p, y] ∧ HistAt C CK H p ks ys ∧ kbOk ks ∧ Kd H y n ∧
  match wholeN y ys.length with
  | some m => ∀ q H', H q = none → Same H H' → HistAt C CK H' q ks (f m ys) → Q (.ref q) H'
  | none => ∀ d H', H d = none → Same H H' → H' d = some (.xd [("years", y)]) → E (.ref CY) (some d) H'
def spHistOf (C CK : Addr) : Sp := fun vs H Q _ => ∃ (kp yt : Addr) (ks : List (Str × Int)) (ys : List (List (List Str))), vs = [.ref kp, .ref yt] ∧ KindsAt CK H kp (vv ks) ∧ kbOk ks ∧ Ys .tup H (.ref yt) ys ∧ ∀ q H', H q = none → Same H H' → HistAt C CK H' q ks ys → Q (.ref q) H'
def spLastOf : Sp := fun vs H Q _ => ∃ (a : Addr) (xs : List V) (m : Nat), vs = [.ref a, .int (m : Nat)] ∧ H a = some (.tup xs) ∧ m ≤ xs.length ∧ ∀ t H', Same H H' → H' t = some (.tup (xs.drop (xs.length - m))) → Q (.ref t) H'
theorem cut_take (xs : List V) (m : Nat) (h : m ≤ xs.length) : cutV xs none (some (m : Int)) = xs.take m := by
  unfold cutV
  have e1 : HT.sIx xs.length 0 none = 0 := rfl
  have e2 : HT.sIx xs.length xs.length (some (m : Int)) = m := by
    simp [HT.sIx]
    rw [if_neg (by omega)]
    omega
  rw [e1, e2]
  simp
theorem cut_drop (xs : List V) (m : Nat) (h : m ≤ xs.length) : cutV xs (some (m : Int)) none = xs.drop m := by
  unfold cutV
  have e1 : HT.sIx xs.length 0 (some (m : Int)) = m := by
    simp [HT.sIx]
    rw [if_neg (by omega)]
    omega
  have e2 : HT.sIx xs.length xs.length none = xs.length := rfl
  rw [e1, e2, List.take_of_length_le (by simp)]
theorem hFs_eq (k y : Addr) : hFs k y = [(Str.ofString "kinds", .ref k), (Str.ofString "years", .ref y)] := by
  unfold hFs
  simp only [putF, if_neg s_ky]
theorem hFs_put (k y z : Addr) : putF "years" (.ref z) (hFs k y) = hFs k z := by
  rw [hFs_eq, hFs_eq]
  simp only [putF, if_neg s_ky, if_true]
/-- a written empty tuple -/
structure Wnil (K : PySem.W.Frag) (e : Addr) : Prop where
  ex : ∃ o : Obj, K.lookup e = some o ∧ o.cls = .type "tuple" ∧ ∃ n, o.data = .seq #[] n
theorem Wnil.seq {K : PySem.W.Frag} {e : Addr} (w : Wnil K e) {H : Hp} : IsSeq K H e [] := by
  obtain ⟨o, h1, h2, n, h3⟩ := w.ex
  exact .wr h1 h2 fun H => .inr ⟨o, #[], n, h1, h2, h3, Nat.zero_le _, .nil⟩
section
variable {P : Program} {w : World} {K : PySem.W.Frag} {mg : Str → Option Value} {base : Heap}
theorem HC.ty {C : Addr} (k : HC K C) {H : Hp} {a dx : Addr} {fs : List (Str × V)} (h : H a = some (.ins C dx fs)) : TyX K H (.ref a) (.ref C) := .base (.ins h k.cl k.ca k.cg k.ct k.cm)
theorem scHEq : FnScope ["self", "other"] ["self", "other"] (defScope sHistory_eq) := ⟨rfl, rfl, rfl, by decide +kernel, rfl, by decide +kernel, by decide +kernel⟩
theorem ok_heq {f C CK gE : Addr} {fd fdE : FuncData} (F : Fun K "__eq__" "History.__eq__" sHistory_eq f fd) (B : Bm mg) (HX : HC K C) (KX : KC K CK) (NH : NotOf K C) (mH : mg "History" = some (.ref C)) (OE : OwnM P w K mg base CK "__eq__" 1 ["self", "other"] (spKEq CK) gE fdE) (nf : PySem.W.notFirst K CK (.ref CK) = true) :
    FnOk P w K mg base CX0 2 f fd ["self", "other"] (spHEq C CK) := by
  refine F.ok scHEq (fun vs H Q E h => ?_) (fun cdv A outer s H vs Q E hr h => ?_)
  · obtain ⟨p, y, ks, ys, rfl, _⟩ := h
    rfl
  · obtain ⟨p, y, ks, ys, rfl, hk, ok, oy, h⟩ := h
    refine ⟨_, pss_one (ps_ret (pe_and (pe_callB call_isi (by rfl) B.isinstance (by decide +kernel) (pa_cons (pv 1) (pa_cons (pe_glob (v := .ref C) rfl mH rfl) pa_nil)))
      (pe_and (pe_cmpR (op_eqOwn OE.M.at_ OE.M.fn OE.raw hr pass0) (pe_fld (pv 0) rfl) (pe_fld (pv 1) rfl) (nomark _)) (pe_one (pe_cmpR (op_eqD hr.units) (pe_fld (pv 0) rfl) (pe_fld (pv 1) rfl) (nomark _)))))), ?_⟩
    obtain ⟨dx, fs, kp, yt, h1, h2, h3, h4, h5, h6⟩ := hk.ob
    rcases h with ⟨b, ls, zs, rfl, hb, okl, oyz, k⟩ | ⟨b, zs, rfl, hb, k⟩
    · obtain ⟨dx', fs', kp', yt', g1, g2, g3, g4, g5, g6⟩ := hb.ob
      obtain ⟨kdx, kfs, _, _, _, _, i1, _⟩ := h5.get (K := K)
      obtain ⟨kdx', kfs', _, _, _, _, i1', _⟩ := g5.get (K := K)
      refine ⟨_, rfl, _, _, _, _, _, rfl, .own C, HX.ty g1, kit_self, _, rfl, iteT ?_⟩
      refine ⟨_, rfl, p, C, dx, fs, _, rfl, h1, HX.cl, HX.nK, h2, _, rfl, b, C, dx', fs', _, rfl, g1, HX.cl, HX.nK, g2, ?_⟩
      refine ⟨kp, kdx, kfs, rfl, i1, .inl ⟨kp', kdx', kfs', CK, rfl, i1', nf⟩, kp, _, ks, rfl, h5, ok, .inl ⟨kp', ls, rfl, g5, okl, _, rfl, _, rfl, ?_⟩⟩
      by_cases e : ks = ls
      · rw [decide_eq_true e]
        refine iteT ⟨_, rfl, p, C, dx, fs, _, rfl, h1, HX.cl, HX.nY, h3, _, rfl, b, C, dx', fs', _, rfl, g1, HX.cl, HX.nY, g3, dYs ys, dYs zs, h6.dp, g6.dp, shaped_dYs oy, shaped_dYs oyz, ?_⟩
        rw [eqv_dYs]
        have e2 : decide (ks = ls ∧ ys = zs) = decide (ys = zs) := by simp [e]
        rw [e2] at k
        exact k
      · rw [decide_eq_false e]
        have e2 : decide (ks = ls ∧ ys = zs) = false := by simp [e]
        rw [e2] at k
        exact iteF k
    · exact ⟨_, rfl, _, _, _, _, _, rfl, .own C, .base (.tup hb), NH.tup, _, rfl, iteF k⟩
theorem scLastOf : FnScope ["years", "many"] ["years", "many"] (defScope sLastOf) := ⟨rfl, rfl, rfl, by decide +kernel, rfl, by decide +kernel, by decide +kernel⟩
theorem ok_lastof {f : Addr} {fd : FuncData} (F : Fun K "_last_of" "_last_of" sLastOf f fd) (m : mg "_last_of" = some (.ref f)) (T : Bl mg) : HasF P w K mg base "_last_of" 1 ["years", "many"] spLastOf := by
  refine ⟨f, fd, ?_, m, F.kp, F.binds fun _ _ _ _ _ _ us hl => match us, hl with | [_, _], _ => rfl⟩
  refine F.ok scLastOf (fun vs H Q E h => ?_) (fun cdv A outer s H vs Q E hr h => ?_)
  · obtain ⟨a, b, c, rfl, _⟩ := h
    rfl
  · obtain ⟨a, xs, m, rfl, ha, lm, k⟩ := h
    refine ⟨_, pss_one (ps_ret (pe_slice sl_tupA (pv 0) (po_some (pe_op op_sub (pe_callB call_len_seq (by rfl) T.len PySem.boot_len (pa_cons (pv 0) pa_nil)) (pv 1))) po_none)), ?_⟩
    refine ⟨_, rfl, _, rfl, a, xs, rfl, .inr (SqT.of ha), _, rfl, _, _, rfl, rfl, ?_⟩
    have e1 : (((xs.length : Nat) : Int) - (m : Nat)) = (((xs.length - m : Nat)) : Int) := by omega
    refine ⟨_, rfl, a, xs, rfl, SqT.of ha, fun hw => ?_, fun hw t ht => ?_⟩
    · refine k a _ (Same.refl _) ?_
      rw [e1] at hw
      have e2 : HT.sIx xs.length 0 (some ((xs.length - m : Nat) : Int)) = xs.length - m := by
        simp [HT.sIx]
        try omega
      rw [e2] at hw
      rw [hw.1]
      exact ha
    · refine k t _ (sameUpd (Same.refl _) ht) ?_
      rw [e1, cut_drop xs _ (by omega), upd_same]
theorem scHistOf : FnScope ["kinds", "years", "made"] ["kinds", "years"] (defScope sHistoryOf) := ⟨rfl, rfl, rfl, by decide +kernel, rfl, by decide +kernel, by decide +kernel⟩
theorem ok_histof {f C CK CB fI ed : Addr} {fd fdI : FuncData} {ds : List Value} (F : Fun K "history_of" "history_of" sHistoryOf f fd) (m : mg "history_of" = some (.ref f)) (HX : HC K C) (mH : mg "History" = some (.ref C)) (MK : Mk K C fI) (we : Wnil K ed)
    (GI : FnOk P w K mg base (L2.CX P w) 4 fI fdI ["self", "kinds", "years"] (spHist K C CK CB)) (bI : Binds K fdI ["self", "kinds", "years"] ds) (rd : Vals [V.ref ed] ds) : HasF P w K mg base "history_of" 6 ["kinds", "years"] (spHistOf C CK) := by
  refine ⟨f, fd, ?_, m, F.kp, F.binds fun _ _ _ _ _ _ us hl => match us, hl with | [_, _], _ => rfl⟩
  refine F.ok scHistOf (fun vs H Q E h => ?_) (fun cdv A outer s H vs Q E hr h => ?_)
  · obtain ⟨a, b, c, d, rfl, _⟩ := h
    rfl
  · obtain ⟨kp, yt, ks, ys, rfl, hk, kb, hy, k⟩ := h
    refine ⟨_, (pss_cons (ps_set (i := 2) scHistOf.nd rfl (Or.inl rfl) (pe_make MK GI hr (by rfl) mH bI rd passL (pa_cons (pv 0) pa_nil)))
    (pss_cons (ps_fld (pv 2) (pv 1) rfl)
    (pss_one (ps_ret (pv 2))))), ?_⟩
    refine ⟨_, rfl, fun x dx hx hdx ne => ?_⟩
    have nx : ∀ b o, H b = some o → b ≠ x := fun b o e z => by rw [z, hx] at e; cases e
    have nd : ∀ b o, H b = some o → b ≠ dx := fun b o e z => by rw [z, hdx] at e; cases e
    have s1 : Same H (upd (upd H dx (.own x)) x (.ins C dx [])) := fun b o e => by rw [upd_ne (nx b o e), upd_ne (nd b o e)]; exact e
    have hk1 := hk.keep s1
    obtain ⟨kdx, kfs, _, _, _, _, i1, _⟩ := hk.get (K := K)
    refine ⟨x, dx, _, _, _, rfl, upd_same, .seq we.seq .nil (Nat.zero_le _), .inr ⟨kp, ks, rfl, nx _ _ i1, hk1, kb, ?_⟩⟩
    show ∀ ys H', _ → _ → _ → _
    intro ys0 H2 _ s2 hh
    refine ⟨rfl, ?_⟩
    obtain ⟨dx2, kp2, yt2, g1, g2, g3⟩ := hh.ex
    have kne : kp2 ≠ x := fun e => by
      obtain ⟨kdx2, kfs2, _, _, _, _, j1, j2, _⟩ := g2.get (K := K)
      rw [e, g1] at j1
      have e3 := Option.some.inj j1
      have e4 : hFs kp2 yt2 = kfs2 := by injection e3
      rw [← e4, hFs_no kp2 yt2 (by decide +kernel) (by decide +kernel)] at j2
      cases j2
    refine ⟨_, rfl, _, rfl, x, C, dx2, _, rfl, g1, HX.cl, HX.nY, (by rw [hFs_eq]; show 2 < 1000; decide), ?_⟩
    rw [hFs_put]
    have s3 : Same H (upd H2 x (.ins C dx2 (hFs kp2 yt))) := fun b o e => by
      rw [upd_ne (nx b o e)]
      exact s2 b o (s1 b o e) (nx b o e)
    refine ⟨_, rfl, k x _ hx s3 ⟨dx2, kp2, yt, upd_same, ((g2.off g1 kne).keep (woU (Same.refl _))).keep wo_same, hy.keep s3⟩⟩
end
end Kx

set_option maxHeartbeats 4000000
namespace Kx
open PySem PySem.Spec PyProof.Rows L2
section
variable {X : Cx} {CX : CXT} {k i : Nat} {f C : Addr} {sp : Sp} {E : XK} {x : Str} {p pos : Pos} {e : Expr} {es : List Expr} {t : TA}
/-- c(e, ..), c a local name that holds the class at C -/
theorem pe_makeLoc (M : Mk X.K C f) (F : FnR X.prog X.w X.K X.mg X.base CX k f sp) (hr : Room (k + 1) X.A) (hN : X.N[i]? = some x) (hv : Vis X.env.scope x) (hx : Passes CX X E) (ha : PA X (e :: es) t)
    (hdb : (x == ("__debug__" : Str)) = false := by decide) (hcd : (x == ("__classdict__" : Str)) = false := by decide)
    (he : starEach (e :: es) X.env = (false, eval e X.env) :: starEach es X.env := by rfl) (hpl : (backTo pos (starEach es X.env)).any (·.1) = false := by rfl) :
    PE X (.Call (.Name x p) (e :: es) [] pos) (fun σ H Q => σ[i]? = some (some (.ref C)) ∧ StX.tMakeR C sp E t σ H Q) := by
  refine ⟨fun pins s σ H Q I ⟨hs, ht⟩ => ?_⟩
  refine wpAny_Call_Name_kw (thn ((pe_var (pos := p) hN hv hdb hcd).run pins s σ H (fun v H1 => v = .ref C ∧ H1 = H) I ⟨.ref C, hs, rfl, rfl⟩) fun u s1 ⟨v, H1, I1, r1, q1⟩ => ?_)
  obtain ⟨rfl, rfl⟩ := q1
  cases r1
  exact PySem.W.callWith_K (h₀ := X.base) I1.ok.mod.kin M.kp (thn (ha.run pos pins s1 σ _ _ I1 ht) fun us s2 ⟨vs, H2, I2, r, q⟩ => ⟨I2.kIn, StX.run_makeR M F hr hx I2 r q⟩) he hpl
end
def spFrom (K : PySem.W.Frag) (C CK : Addr) : Sp := fun vs H Q _ => ∃ (kp p : Addr) (ks : List (Str × Int)) (r : Option (List (Option (List (Option (List V)))))), vs = [.ref C, .ref kp, .ref p] ∧ KindsAt CK H kp (vv ks) ∧ kbOk ks ∧ YearsIs K H (.ref p) r ∧ yearsDue ks r = none ∧
  ∀ q ys H', r = some (yR ys) → H q = none → Same H H' → HistAt C CK H' q ks ys → Q (.ref q) H'
/-- what is known of BadYears -/
structure BY (P : Program) (w : World) (K : PySem.W.Frag) (mg : Str → Option Value) (base : Heap) (CY fY : Addr) (fdY : FuncData) : Prop where
  E : ErC P w K mg base "BadYears" ["self", "years"] CY fY fdY (spInit1 K CY "years")
  n1 : PySem.W.findIn K (.ref CY) "years" = some none
def fst' (m : Nat) (ys : List (List (List Str))) : List (List (List Str)) := ys.take m
def lst' (m : Nat) (ys : List (List (List Str))) : List (List (List Str)) := ys.drop (ys.length - m)
def spCut2 (C CK CY : Addr) (f : Nat → List (List (List Str)) → List (List (List Str))) : Sp := fun vs H Q E => spCut C CK CY f vs H Q E ∧ ∀ p y ks ys, vs = [.ref p, y] → HistAt C CK H p ks ys → ys.length ≤ 2000000
theorem Ys.cut {H : Hp} {x : Addr} {ys : List (List (List Str))} (h : Ys .tup H (.ref x) ys) : ∃ xs, H x = some (.tup xs) ∧ Paired (Ds .tup H) xs ys := by
  obtain ⟨a, xs, e, h1, h2⟩ := h
  cases e
  exact ⟨xs, h1, h2⟩
section
variable {P : Program} {w : World} {K : PySem.W.Frag} {mg : Str → Option Value} {base : Heap}
theorem hist_free {C CK CB : Addr} {H : Hp} {kp x dx : Addr} {y : V} {ks : List (Str × Int)} {r : Option (List (Option (List (Option (List V)))))} {Q : VK} {E : XK} (hk : KindsAt CK H kp (vv ks)) (kb : kbOk ks) (hy : YearsIs K H y r) (due : yearsDue ks r = none) (hx : H x = none) (hdx : H dx = none)
    (k : ∀ ys H', r = some (yR ys) → Same H H' → HistAt C CK H' x ks ys → Q .non H') : spHist K C CK CB [.ref x, .ref kp, y] (upd (upd H dx (.own x)) x (.ins C dx [])) Q E := by
  have nx : ∀ b o, H b = some o → b ≠ x := fun b o e z => by rw [z, hx] at e; cases e
  have nd : ∀ b o, H b = some o → b ≠ dx := fun b o e z => by rw [z, hdx] at e; cases e
  have s1 : Same H (upd (upd H dx (.own x)) x (.ins C dx [])) := fun b o e => by rw [upd_ne (nx b o e), upd_ne (nd b o e)]; exact e
  obtain ⟨kdx, kfs, _, _, _, _, i1, _⟩ := hk.get (K := K)
  refine ⟨x, dx, _, y, r, rfl, upd_same, hy.keep s1, .inr ⟨kp, ks, rfl, nx _ _ i1, hk.keep s1, kb, ?_⟩⟩
  rw [due]
  exact fun ys H' e s hh => k ys H' e (fun b o q => s b o (s1 b o q) (nx b o q)) hh
theorem scFirst : FnScope ["self", "years"] ["self", "years"] (defScope sHistory_first) := ⟨rfl, rfl, rfl, by decide +kernel, rfl, by decide +kernel, by decide +kernel⟩
theorem scLast : FnScope ["self", "years"] ["self", "years"] (defScope sHistory_last) := ⟨rfl, rfl, rfl, by decide +kernel, rfl, by decide +kernel, by decide +kernel⟩
theorem ok_first {f C CK CY fY gL : Addr} {fd fdY fdL : FuncData} (F : Fun K "first" "History.first" sHistory_first f fd) (HX : HC K C) (W : HasF P w K mg base "is_whole" 1 ["thing", "low", "high"] spWhole) (HO : HasF P w K mg base "history_of" 6 ["kinds", "years"] (spHistOf C CK))
    (OL : OwnM P w K mg base C "__len__" 1 ["self"] (spHLen C CK) gL fdL) (mL : mg "len" = none) (EY : BY P w K mg base CY fY fdY) : FnOk P w K mg base (L2.CX P w) 7 f fd ["self", "years"] (spCut2 C CK CY fst') := by
  obtain ⟨f1, fd1, W⟩ := W; obtain ⟨f2, fd2, HO⟩ := HO
  refine F.okX scFirst (fun vs H Q E h => ?_) (fun cdv A outer s H vs Q E hr h => ?_)
  · obtain ⟨⟨a, b, c, d, e, rfl, _⟩, _⟩ := h
    rfl
  · obtain ⟨⟨p, y, n, ks, ys, rfl, hk, kb, ky, k⟩, lz⟩ := h
    have lz := lz p y ks ys rfl hk
    have hr1 : Room 1 _ := hr.mono (by decide)
    have hr2 : Room 2 _ := hr.mono (by decide)
    refine ⟨_, (pss_cons (ps_if (pt_not (pt_val (pe_call W.G hr1 (by rfl) W.m W.kp W.b .nil pass0 (pa_cons (pv 1) (pa_cons pe_int (pa_cons (pe_callB (call_lenOwn OL.M.at_ OL.M.fn OL.raw hr2 pass0) (by rfl) mL PySem.boot_len (pa_cons (pv 0) pa_nil)) pa_nil)))))) (pss_one (ps_raise rfl (takes_of rfl rfl rfl rfl) (pmk_oex EY.E.T EY.E.iC EY.E.tI EY.E.G hr2 EY.E.b .nil pass0 (by rfl) EY.E.gC (pa_cons (pv 1) pa_nil)))) pss_nil)
    (pss_one (ps_ret (pe_call HO.G hr (by rfl) HO.m HO.kp HO.b .nil pass0 (pa_cons (pe_fld (pv 0) rfl) (pa_cons (pe_slice sl_tupA (pe_fld (pv 0) rfl) po_none (po_some (pv 1))) pa_nil)))))), ?_⟩
    obtain ⟨dx, fs, kp, yt, h1, h2, h3, h4, h5, h6⟩ := hk.ob
    refine ⟨_, rfl, _, rfl, p, dx, fs, rfl, h1, p, ks, ys, rfl, hk, _, rfl, by omega, by omega, ?_⟩
    refine ⟨y, n, 0, _, rfl, ky, _, rfl, ?_⟩
    rw [wholeN_V]
    cases e : wholeN y ys.length with
    | none =>
      rw [e] at k
      exact iteT ⟨_, rfl, fin1 EY.E.T EY.n1 fun d H2 hd s2 e2 => k d H2 hd s2 e2⟩
    | some m =>
      rw [e] at k
      obtain ⟨rfl, lm⟩ := wholeN_some e
      refine iteF ?_
      obtain ⟨xs, hx, px⟩ := h6.cut
      have lx := Paired.length px
      refine ⟨_, rfl, p, C, dx, fs, _, rfl, h1, HX.cl, HX.nK, h2, _, rfl, p, C, dx, fs, _, rfl, h1, HX.cl, HX.nY, h3, _, rfl, _, rfl, yt, xs, rfl, SqT.of hx, fun hw => ?_, fun hw t ht => ?_⟩
      · have em : m = ys.length := by
          have e2 : HT.sIx xs.length xs.length (some (m : Int)) = m := by
            simp [HT.sIx]
            rw [if_neg (by omega)]
            omega
          rw [e2] at hw
          omega
        refine ⟨kp, yt, ks, fst' m ys, rfl, h5, kb, ?_, fun q H' hq s hh => k q H' hq s hh⟩
        unfold fst'
        rw [List.take_of_length_le (by omega)]
        exact h6
      · have s1 : Same H (upd H t (.tup (cutV xs none (some (m : Int))))) := sameUpd (Same.refl _) ht
        refine ⟨kp, t, ks, fst' m ys, rfl, h5.keep s1, kb, ⟨t, _, rfl, upd_same, ?_⟩, fun q H' hq s hh => k q H' (s1.free hq) (s1.trans s) hh⟩
        rw [cut_take xs m (by omega)] at s1 ⊢
        exact pr_take (pr_imp px fun _ _ q => q.keep s1) m
theorem ok_last {f C CK CY fY gL : Addr} {fd fdY fdL : FuncData} (F : Fun K "last" "History.last" sHistory_last f fd) (HX : HC K C) (W : HasF P w K mg base "is_whole" 1 ["thing", "low", "high"] spWhole) (HO : HasF P w K mg base "history_of" 6 ["kinds", "years"] (spHistOf C CK)) (LO : HasF P w K mg base "_last_of" 1 ["years", "many"] spLastOf)
    (OL : OwnM P w K mg base C "__len__" 1 ["self"] (spHLen C CK) gL fdL) (mL : mg "len" = none) (EY : BY P w K mg base CY fY fdY) : FnOk P w K mg base (L2.CX P w) 7 f fd ["self", "years"] (spCut2 C CK CY lst') := by
  obtain ⟨f1, fd1, W⟩ := W; obtain ⟨f2, fd2, HO⟩ := HO; obtain ⟨f3, fd3, LO⟩ := LO
  refine F.okX scLast (fun vs H Q E h => ?_) (fun cdv A outer s H vs Q E hr h => ?_)
  · obtain ⟨⟨a, b, c, d, e, rfl, _⟩, _⟩ := h
    rfl
  · obtain ⟨⟨p, y, n, ks, ys, rfl, hk, kb, ky, k⟩, lz⟩ := h
    have lz := lz p y ks ys rfl hk
    have hr1 : Room 1 _ := hr.mono (by decide)
    have hr2 : Room 2 _ := hr.mono (by decide)
    refine ⟨_, (pss_cons (ps_if (pt_not (pt_val (pe_call W.G hr1 (by rfl) W.m W.kp W.b .nil pass0 (pa_cons (pv 1) (pa_cons pe_int (pa_cons (pe_callB (call_lenOwn OL.M.at_ OL.M.fn OL.raw hr2 pass0) (by rfl) mL PySem.boot_len (pa_cons (pv 0) pa_nil)) pa_nil)))))) (pss_one (ps_raise rfl (takes_of rfl rfl rfl rfl) (pmk_oex EY.E.T EY.E.iC EY.E.tI EY.E.G hr2 EY.E.b .nil pass0 (by rfl) EY.E.gC (pa_cons (pv 1) pa_nil)))) pss_nil)
    (pss_one (ps_ret (pe_call HO.G hr (by rfl) HO.m HO.kp HO.b .nil pass0 (pa_cons (pe_fld (pv 0) rfl) (pa_cons (pe_call LO.G hr1 (by rfl) LO.m LO.kp LO.b .nil pass0 (pa_cons (pe_fld (pv 0) rfl) (pa_cons (pv 1) pa_nil))) pa_nil)))))), ?_⟩
    obtain ⟨dx, fs, kp, yt, h1, h2, h3, h4, h5, h6⟩ := hk.ob
    refine ⟨_, rfl, _, rfl, p, dx, fs, rfl, h1, p, ks, ys, rfl, hk, _, rfl, by omega, by omega, ?_⟩
    refine ⟨y, n, 0, _, rfl, ky, _, rfl, ?_⟩
    rw [wholeN_V]
    cases e : wholeN y ys.length with
    | none =>
      rw [e] at k
      exact iteT ⟨_, rfl, fin1 EY.E.T EY.n1 fun d H2 hd s2 e2 => k d H2 hd s2 e2⟩
    | some m =>
      rw [e] at k
      obtain ⟨rfl, lm⟩ := wholeN_some e
      refine iteF ?_
      obtain ⟨xs, hx, px⟩ := h6.cut
      have lx := Paired.length px
      refine ⟨_, rfl, p, C, dx, fs, _, rfl, h1, HX.cl, HX.nK, h2, _, rfl, p, C, dx, fs, _, rfl, h1, HX.cl, HX.nY, h3, _, rfl, yt, xs, m, rfl, hx, by omega, fun t H1 s1 ht => ?_⟩
      refine ⟨kp, t, ks, lst' m ys, rfl, h5.keep s1, kb, ⟨t, _, rfl, ht, ?_⟩, fun q H' hq s hh => k q H' (s1.free hq) (s1.trans s) hh⟩
      unfold lst'
      rw [lx]
      exact pr_drop (pr_imp px fun _ _ q => q.keep s1) _
end
end Kx

set_option maxHeartbeats 4000000
namespace Kx
open PySem L2
theorem hid_new {a p D : Addr} {H : Hp} {o : HO} (hD : H D = none) : Same (hid a p H) (wo D (hid a p (upd H D o))) := fun c u e => by
  obtain ⟨e1, n1, n2⟩ := hid_get e
  have cD := ne_of_none e1 hD
  rw [wo_ne cD]
  exact hid_at (by rw [upd_ne cD]; exact e1) n1 n2
/-- years that were drawn: each deed one of the kinds by the persons -/
def GoodY (ks : List (Str × Int)) (ps : List Str) (ys : List (List (List Str))) : Prop := ys.length ≤ 8 ∧ ∀ y ∈ ys, y.length ≤ 4 ∧ ∀ d ∈ y, Made ks ps d
def spTold : Sp := fun vs H Q _ => ∃ (p q b c : Addr) (ks : List (Str × Int)) (ps : List Str), vs = [.ref p, .ref b, .ref c] ∧ Mat H p q b c ks ps ∧ ∀ (a : Addr) (ys : List (List (List Str))) (H' : Hp), Ys .lst (wo p H') (.ref a) ys → GoodY ks ps ys → H a = none → HandAt H' p q → Keep H H' p → Q (.ref a) H'
section
variable {P : Program} {w : World} {K : PySem.W.Frag} {mg : Str → Option Value} {base : Heap}
abbrev nTold : List Str := ["_law_hand_here", "_law_rows", "_law_persons_here", "_law_years", "_law_k", "_law_j"]
theorem scTold : FnScope nTold ["_law_hand_here", "_law_rows", "_law_persons_here"] (defScope sLToldYears) := ⟨rfl, rfl, rfl, by decide +kernel, rfl, by decide +kernel, by decide +kernel⟩
theorem ok_told {f : Addr} {fd : FuncData} (F : Fun K "_law_told_years" "_law_told_years" sLToldYears f fd) (m : mg "_law_told_years" = some (.ref f)) (T : Bl mg) (D : HasF P w K mg base "_law_draw" 2 ["_law_hand_here", "_law_many"] spDraw) (G : HasF P w K mg base "_law_made_deed" 4 ["_law_hand_here", "_law_rows", "_law_persons_here"] spMade) :
    HasF P w K mg base "_law_told_years" 5 ["_law_hand_here", "_law_rows", "_law_persons_here"] spTold := by
  refine ⟨f, fd, ?_, m, F.kp, F.binds fun _ _ _ _ _ _ us hl => match us, hl with | [_, _, _], _ => rfl⟩
  obtain ⟨f1, fd1, D⟩ := D; obtain ⟨f2, fd2, G⟩ := G
  refine F.ok scTold (fun vs H Q E h => ?_) (fun cdv A outer s H vs Q E hr h => ?_)
  · obtain ⟨a, b, c, d, e, f, rfl, _⟩ := h
    rfl
  · obtain ⟨p, q, b, c, ks, ps, rfl, M, k⟩ := h
    have hr2 : Room 2 _ := hr.mono (by decide)
    refine ⟨_, (pss_cons (ps_set (i := 3) scTold.nd rfl (Or.inl rfl) (pe_lst pa_nil))
    (C8.pss_cut (ps_for PassesOwn.never rfl (pi_range1 (by rfl) T.range (pa_cons (pe_call D.G hr2 (by rfl) D.m D.kp D.b .nil pass0 (pa_cons (pv 0) (pa_cons pe_int pa_nil))) pa_nil)) (pg_name (i := 4) scTold.nd rfl (.inl rfl))
        (pss_one (ps_expr (pe_bm PySem.F.plainAttrs_list PySem.F.slot_list_append PySem.F.type_list_append mt_append (pv 3) (pa_cons (pe_lc (own := [("_law_j", 5)]) (g := gName 5) (tt := tYes) (by rfl) scTold.nd (pi_range1 (by rfl) T.range (pa_cons (pe_call D.G hr2 (by rfl) D.m D.kp D.b .nil pass0 (pa_cons (pv 0) (pa_cons pe_int pa_nil))) pa_nil)) (blkOk_by (own := [("_law_j", 5)]) (N := nTold) (sc := defScope sLToldYears) (by decide +kernel))
          (fun _ _ _ _ _ => pg_name (i := 5) scTold.nd rfl (Or.inl rfl)) (fun _ _ _ _ _ => pts_nil) (fun _ _ _ _ _ => (pe_call G.G hr (by rfl) G.m G.kp G.b .nil pass0 (pa_cons (pv 0) (pa_cons (pv 1) (pa_cons (pv 2) pa_nil)))))) pa_nil)))))
    (pss_one (ps_ret (pv 3))))), ?_⟩
    refine ⟨Nat.zero_le _, fun a ha => ?_⟩
    have fr0 : Fr a p q [] H E0p (upd H a (.lst [])) := ⟨upd_same, M.hp.ap ha, M.hp.upd (M.hp.ap ha) (M.hp.aq ha), keepUpd Keep.refl ha, hid_E0, ha, M.hp.aq ha⟩
    refine ⟨fun σ H2 => ∃ (xs : List V) (ys : List (List (List Str))), σ[3]? = some (some (.ref a)) ∧ Fr a p q xs H E0p H2 ∧ Paired (Ds .lst (hid a p H2)) xs ys ∧ GoodY ks ps ys, ?_, ?_⟩
    · refine ⟨_, rfl, p, q, 9, rfl, fr0.hp, by decide, by decide, fun z H1 z0 z1 hp1 k1 => ?_⟩
      obtain ⟨fr1, _⟩ := fr0.draw k1 hp1
      refine ⟨_, rfl, by omega, by omega, for_range (n := z.toNat) (fun i σ H2 => ∃ (xs : List V) (ys : List (List (List Str))) (v4 v5 : Option V), σ = [some (.ref p), some (.ref b), some (.ref c), some (.ref a), v4, v5] ∧ Fr a p q xs H E0p H2 ∧ Paired (Ds .lst (hid a p H2)) xs ys ∧ ys.length = i ∧ ∀ y ∈ ys, y.length ≤ 4 ∧ ∀ d ∈ y, Made ks ps d)
        ⟨[], [], none, none, rfl, fr1, .nil, rfl, fun y hy => nomatch hy⟩ ?_ ?_⟩
      · rintro i σ H2 hi ⟨xs, ys, v4, v5, rfl, fr2, px, yl, gy⟩
        refine ⟨_, rfl, .inl ⟨rfl, _, SqL.of fr2.hb⟩, _, rfl, p, q, 5, rfl, fr2.hp, by decide, by decide, fun u H3 u0 u1 hp3 k3 => ?_⟩
        obtain ⟨fr3, s3⟩ := fr2.draw k3 hp3
        have px3 : Paired (Ds .lst (hid a p H3)) xs ys := pr_imp px fun _ _ h => h.keep s3
        refine ⟨_, rfl, by omega, by omega, fun L hL => lc_range (lo := 0) (n := u.toNat) (fun j Hj => ∃ (acc : List V) (ds : List (List Str)), Hj L = some (.lst acc) ∧ Paired (Ss .lst (wo L (hid a p Hj))) acc ds ∧ ds.length = j ∧ (∀ d ∈ ds, Made ks ps d) ∧ Fr a p q xs H E0p Hj ∧ Paired (Ds .lst (wo L (hid a p Hj))) xs ys) ?_ ?_ ?_⟩
        · obtain ⟨L0, La, Lp, Lq⟩ := fr3.free hL
          exact ⟨[], [], upd_same, .nil, rfl, fun d hd => (nomatch hd), fr3.put L0 rfl La Lp Lq, pr_imp px3 fun _ _ h => h.keep (hid_new hL)⟩
        · rintro j Hj hj ⟨acc, ds, hacc, pa, dl, md, frj, pxj⟩
          obtain ⟨L0, La, Lp, Lq⟩ := fr3.free hL
          refine ⟨rfl, ?_⟩
          refine ⟨_, rfl, _, rfl, _, rfl, p, q, b, c, ks, ps, rfl, M.keep frj.kp frj.hp, fun d zs H5 fr5 mz => ?_⟩
          obtain ⟨fr6, s6⟩ := frj.draw fr5.kp fr5.hp
          have hL5 : H5 L = some (.lst acc) := fr5.kp L _ hacc Lp
          have dL : d ≠ L := fun e => by have z := fr5.b0; rw [e, hacc] at z; cases z
          have da : d ≠ a := fun e => by have z := fr5.b0; rw [e, frj.hb] at z; cases z
          have sw : Same (wo L (hid a p Hj)) (wo L (hid a p (upd H5 L (.lst (acc ++ [.ref d]))))) := (wo_mono s6).trans wo_put
          refine ⟨acc, hL5, small1000 (by rw [Paired.length pa]; omega), acc ++ [.ref d], ds ++ [zs], upd_same, pr_app (pr_imp pa fun _ _ h => h.keep sw) (.cons ⟨d, rfl, ?_⟩ .nil), by simp [dl], fun e he => ?_, fr6.put L0 rfl La Lp Lq, pr_imp pxj fun _ _ h => h.keep sw⟩
          · rw [wo_ne dL]
            exact hid_at (by rw [upd_ne dL]; exact fr5.hb) da fr5.bp
          · rcases List.mem_append.mp he with h | h
            · exact md e h
            · rw [List.mem_singleton.mp h]
              exact mz
        · rintro Hj ⟨acc, ds, hacc, pa, dl, md, frj, pxj⟩
          obtain ⟨L0, La, Lp, Lq⟩ := fr3.free hL
          refine ⟨a, _, _, rfl, rfl, frj.hb, small1000 (by rw [Paired.length px]; omega), xs ++ [.ref L], ys ++ [ds], _, _, rfl, ⟨upd_same, frj.bp, frj.hp.upd frj.bp frj.bq, keepUpd frj.kp frj.b0, hid_E0, frj.b0, frj.bq⟩, pr_app (pr_imp pxj fun _ _ h => (h.keep wo_same).keep hid_b) (.cons ⟨L, acc, rfl, hid_at (by rw [upd_ne La]; exact hacc) La Lp, pr_imp pa fun _ _ h => (h.keep wo_same).keep hid_b⟩ .nil), by simp [yl], fun y hy => ?_⟩
          rcases List.mem_append.mp hy with h | h
          · exact gy y h
          · rw [List.mem_singleton.mp h]
            exact ⟨by omega, md⟩
      · rintro σ H2 ⟨xs, ys, v4, v5, rfl, fr2, px, yl, gy⟩
        exact ⟨xs, ys, rfl, fr2, px, by omega, gy⟩
    rintro σ H2 ⟨xs, ys, e3, fr2, px, gy⟩
    exact ⟨_, e3, k a ys H2 ⟨a, xs, rfl, wo_at fr2.hb fr2.bp, pr_imp px fun _ _ h => h.keep hid_wo⟩ gy ha fr2.hp fr2.kp⟩
end
end Kx

set_option maxHeartbeats 4000000
namespace Kx
open PySem PySem.Spec PyProof.Rows L2
section
variable {X : Cx}
/-- two lists, of other lengths or both empty -/
def rEqL (K : PySem.W.Frag) : R2 := fun x y H Q => ∃ a b xs ys, x = .ref a ∧ y = .ref b ∧ SqL K H a xs ∧ SqL K H b ys ∧ ((xs.length ≠ ys.length ∧ Q (.bl false) H) ∨ (xs = [] ∧ ys = [] ∧ Q (.bl true) H))
theorem op_eqL (hu : X.A.units + 64 < cLine) : OpR X (compareOp .Eq) (rEqL X.K) := by
  intro pins s σ H x y v u Q I rx ry h
  obtain ⟨a, b, xs, ys, rfl, rfl, ha, hb, h⟩ := h
  obtain rfl : v = Value.ref a := rx
  obtain rfl : u = Value.ref b := ry
  obtain ⟨its, rv, pl, hz⟩ := I.list ha
  obtain ⟨ius, ru, pu, hw⟩ := I.list hb
  have l1 := rv.length
  have l2 := ru.length
  rcases h with ⟨ne, q⟩ | ⟨rfl, rfl, q⟩
  · exact SeqAt.RcAt.lists_lengths pl.isList pu.isList (by simp only [List.size_toArray, bne_iff_ne, ne_eq]; omega) (by omega) X.prog X.w X.xe _ ⟨.bl false, H, I, rfl, q⟩
  · have e := SeqAt.RcAt.lists (e := fun _ => true) (A := X.A) pl.isList pu.isList (by simp only [List.size_toArray]; omega) (by omega) fun j h1 h2 => by
      simp only [List.size_toArray] at h1
      rw [← l1] at h1
      exact absurd h1 (Nat.not_lt_zero j)
    refine e X.prog X.w X.xe _ ⟨.bl true, H, I, ?_, q⟩
    show Value.bool _ = Value.bool true
    simp
end
theorem wo_comm {a b : Addr} {H : Hp} : Same (wo a (wo b H)) (wo b (wo a H)) := fun c u e => by
  obtain ⟨e1, n1⟩ := wo_get e
  obtain ⟨e2, n2⟩ := wo_get e1
  exact wo_at (wo_at e2 n1) n2
theorem Ss.dd {H : Hp} {x : V} {zs : List Str} (h : Ss .lst H x zs) (l : zs.length ≤ 32) (f : ∀ z ∈ zs, Fine z) : Dd H 1 x (.list (zs.map PyData.str)) := by
  obtain ⟨a, rfl, h⟩ := h
  exact strs_dd h l f
theorem Ds.dds {H : Hp} {xs : List V} {ds : List (List Str)} (h : Paired (Ss .lst H) xs ds) (f : ∀ d ∈ ds, d.length ≤ 32 ∧ ∀ z ∈ d, Fine z) : Dds H 1 xs (ds.map fun d => .list (d.map PyData.str)) := by
  induction h with
  | nil => exact .nil
  | cons h t ih => exact .cons (h.dd (f _ (.head _)).1 (f _ (.head _)).2) (ih fun d m => f d (.tail _ m))
def lD (y : List (List Str)) : PyData := .list (y.map fun d => .list (d.map PyData.str))
theorem Ds.dd {H : Hp} {x : V} {ds : List (List Str)} (h : Ds .lst H x ds) (l : ds.length ≤ 32) (f : ∀ d ∈ ds, d.length ≤ 32 ∧ ∀ z ∈ d, Fine z) : Dd H 2 x (lD ds) := by
  obtain ⟨a, xs, rfl, h, p⟩ := h
  exact Dd.lstP h (by rw [Paired.length p]; exact l) (Ds.dds p f)
theorem GoodY.fine {ks : List (Str × Int)} {ps : List Str} {ys : List (List (List Str))} (g : GoodY ks ps ys) (gk : GoodK ks) (l : ∀ y ∈ ps, Lb y) : ∀ y ∈ ys, y.length ≤ 4 ∧ ∀ d ∈ y, 1 ≤ d.length ∧ d.length ≤ 3 ∧ ∀ z ∈ d, Lb z := fun y hy => ⟨(g.2 y hy).1, fun d hd => ((g.2 y hy).2 d hd).all gk l⟩
theorem Dds.cat {H : Hp} {n : Nat} {xs zs : List V} {ds es : List PyData} (h : Dds H n xs ds) (k : Dds H n zs es) : Dds H n (xs ++ zs) (ds ++ es) := pr_app h k
theorem Dds.cut {H : Hp} {n : Nat} {xs : List V} {ds : List PyData} (h : Dds H n xs ds) (lo hi : Option Int) : ∃ es, Dds H n (cutV xs lo hi) es := by
  unfold cutV
  exact ⟨_, pr_take (pr_drop h _) _⟩
theorem cut_le (xs : List V) (lo hi : Option Int) : (cutV xs lo hi).length ≤ xs.length := by
  unfold cutV
  rw [List.length_take, List.length_drop]
  omega
theorem cut_two (xs : List V) (m : Nat) (h : m ≤ xs.length) : (cutV xs none (some (m : Int))).length + (cutV xs (some (m : Int)) none).length = xs.length := by
  rw [cut_take xs m h, cut_drop xs m h, List.length_take, List.length_drop]
  omega
theorem Fr.old {b p q : Addr} {ys : List V} {H0 Hs H : Hp} (f : Fr b p q ys H0 Hs H) : Same (wo p H0) (hid b p H) := fun c u e => by
  obtain ⟨h, n⟩ := wo_get e
  exact hid_at (f.kp c u h n) (fun z => by have q := f.b0; rw [← z, h] at q; cases q) n
theorem dds_ex {H : Hp} {n : Nat} : ∀ {xs : List V}, (∀ (i : Nat) (y : V), xs[i]? = some y → ∃ d, Dd H n y d) → ∃ ds, Dds H n xs ds
  | [], _ => ⟨[], .nil⟩
  | x :: xs, h => by
    obtain ⟨d, hd⟩ := h 0 x rfl
    obtain ⟨ds, hs⟩ := dds_ex (xs := xs) fun i y e => h (i + 1) y e
    exact ⟨d :: ds, .cons hd hs⟩
end Kx

set_option maxHeartbeats 4000000
namespace Kx
open PySem L2
theorem call_isiTK {X : Cx} {K : PySem.W.Frag} (h : X.K = K) : CallR X (.builtin "isinstance") (rIsiT K) := by
  subst h
  exact call_isiT
/-- where and why, or None -/
def TripIs (H : Hp) (x : V) : Option (Nat × Nat × Str) → Prop
  | none => x = .non
  | some (i, j, w) => ∃ a, x = .ref a ∧ H a = some (.tup [.int (i : Nat), .int (j : Nat), .str w])
end Kx

set_option maxHeartbeats 4000000
namespace Kx
open PySem L2
theorem pe_fldK {X : Cx} {K : PySem.W.Frag} {e : Expr} {ta : TE} {f : Str} {pos : Pos} (h : X.K = K) (he : PE X e ta) (hb : attributeBase e f X.env (eval e X.env) = eval e X.env) : PE X (.Attribute e f pos) (tFld K ta f) := by
  subst h
  exact pe_fld he hb
def cutOf (b : Bool) : Nat → List (List (List Str)) → List (List (List Str)) := if b = true then fst' else lst'
end Kx

set_option maxHeartbeats 8000000
namespace Kx
open PySem L2
def rsOf (ks : List (Str × Int)) : List (Option (V × V)) := ks.map fun q => some (.str q.1, .int q.2)
theorem scan_none : ∀ {ks : List (Str × Int)} {names : List Str} {i : Nat}, (∀ q ∈ ks, (isLab q.1 = true ∧ ¬ q.1 = Str.ofString "year" ∧ 0 ≤ q.2 ∧ q.2 ≤ 2) ∧ ¬ q.1 ∈ names) → (ks.map (·.1)).Nodup → scanK names i (rsOf ks) = none
  | [], _, _, _, _ => rfl
  | q :: ks, names, i, h, nd => by
    obtain ⟨⟨h1, h2, h3, h4⟩, h5⟩ := h q (.head _)
    rw [List.map_cons, List.nodup_cons] at nd
    have w : rowWord names (some (.str q.1, .int q.2)) = none := by
      show (if isLab q.1 = true then (if q.1 = Str.ofString "year" then some (Str.ofString "year") else if q.1 ∈ names then some (Str.ofString "double") else if wholeV (.int q.2) 0 2 = true then none else some (Str.ofString "arity")) else some (Str.ofString "label")) = none
      rw [if_pos h1, if_neg h2, if_neg h5, if_pos (by simp [wholeV, h3, h4])]
    show (match rowWord names (some (.str q.1, .int q.2)) with | some w => some (i, w) | none => scanK (names ++ [q.1]) (i + 1) (rsOf ks)) = none
    rw [w]
    refine scan_none (fun r hr => ⟨(h r (.tail _ hr)).1, fun hm => ?_⟩) nd.2
    rcases List.mem_append.mp hm with e | e
    · exact (h r (.tail _ hr)).2 e
    · exact nd.1 (List.mem_map.mpr ⟨r, hr, List.mem_singleton.mp e⟩)
theorem good_due {ks : List (Str × Int)} (g : GoodK ks) : rowsDue (some (rsOf ks)) = none := by
  show (if 1 ≤ (rsOf ks).length ∧ (rsOf ks).length ≤ 6 then scanK [] 0 (rsOf ks) else some (0, Str.ofString "rows")) = none
  rw [if_pos (by simp [rsOf]; exact ⟨g.lo, g.hi⟩)]
  exact scan_none (fun q hq => ⟨g.each q hq, by simp⟩) g.nd
theorem rsOf_at {ks : List (Str × Int)} {i : Nat} {q : Str × Int} (h : ks[i]? = some q) : (rsOf ks)[i]? = some (some (V.str q.1, V.int q.2)) := by
  unfold rsOf
  rw [List.getElem?_map, h]
  rfl
theorem rows_of {H : Hp} {xs : List V} {ks : List (Str × Int)} (h : ItemsAt H xs ks) (g : GoodK ks) : AllR H xs (rsOf ks) := by
  refine ⟨by rw [h.1]; simp [rsOf], fun i x r e1 e2 => ?_⟩
  have lt : i < ks.length := by have := (List.getElem?_eq_some_iff.mp e1).1; have := h.1; omega
  have hq : ks[i]? = some ks[i] := List.getElem?_eq_getElem lt
  rw [rsOf_at hq] at e2
  cases e2
  obtain ⟨lab, _, _, _⟩ := g.each _ (List.getElem_mem lt)
  have tn : Thing H (V.str ks[i].1) "str" := ⟨.str _, fun z e => by cases e; exact ⟨(lab_ok lab).1, by have := (lab_ok lab).2; omega⟩⟩
  have ta : Thing H (V.int ks[i].2) "int" := ⟨.int _, fun z e => nomatch e⟩
  obtain ⟨t, rfl, h | h⟩ := h.2 i x _ e1 hq
  · exact .lst h tn ta
  · exact .tup h tn ta
theorem pr_rsOf (ks : List (Str × Int)) : (rsOf ks).map prOf = vv ks := by
  unfold rsOf vv
  rw [List.map_map]
  rfl
theorem KindsAt.wo {C : Addr} {H : Hp} {x p q : Addr} {ps : List (Str × V)} (k : KindsAt C H x ps) (hp : HandAt H p q) : KindsAt C (wo p H) x ps := by
  obtain ⟨cs, a, b, c, ha, hb⟩ := hp
  obtain ⟨dx, fs, r, n, d, ts, h1, h2, h3, h4, h5, h6, h7, h8, h9, h10⟩ := k.ob
  have ne : ∀ {u : Addr} {o : HO}, H u = some o → (∀ xs, o ≠ .lst xs) → u ≠ p := fun h hn e => by rw [e, ha] at h; exact hn _ (Option.some.inj h).symm
  exact ⟨dx, fs, r, n, d, ts, wo_at h1 (ne h1 fun _ z => nomatch z), h2, h3, h4, h5, wo_at h6 (ne h6 fun _ z => nomatch z), h7, fun i t q e1 e2 => wo_at (h8 i t q e1 e2) (ne (h8 i t q e1 e2) fun _ z => nomatch z), wo_at h9 (ne h9 fun _ z => nomatch z), wo_at h10 (ne h10 fun _ z => nomatch z)⟩
def rot {α : Type} : List α → List α
  | [] => []
  | k :: r => r ++ [k]
theorem cutA (x : V) (xs : List V) : cutV (x :: xs) none (some 1) = [x] := by
  unfold cutV
  have e1 : HT.sIx (x :: xs).length (x :: xs).length (some 1) = 1 := by
    simp [HT.sIx]
    try omega
  rw [e1]
  simp [HT.sIx]
theorem rot_good {ks : List (Str × Int)} (g : GoodK ks) : GoodK (rot ks) := by
  cases ks with
  | nil => exact g
  | cons k r =>
    refine ⟨by simp [rot], by have := g.hi; simp [rot] at *; omega, fun q hq => g.each q ?_, ?_⟩
    · rcases List.mem_append.mp hq with e | e
      · exact .tail _ e
      · rw [List.mem_singleton.mp e]; exact .head _
    · have nd := g.nd
      rw [List.map_cons] at nd
      have pm : List.Perm ((r ++ [k]).map (·.1)) (k.1 :: r.map (·.1)) := by
        rw [List.map_append]
        exact List.perm_append_comm
      exact pm.nodup_iff.mpr nd
theorem rot_items {H : Hp} {x : V} {xs : List V} {ks : List (Str × Int)} (h : ItemsAt H (x :: xs) ks) : ItemsAt H (xs ++ [x]) (rot ks) := by
  cases ks with
  | nil => cases h.1
  | cons k r => exact ItemsAt.add ⟨Nat.succ.inj h.1, fun i y q e1 e2 => h.2 (i + 1) y q e1 e2⟩ (h.2 0 x k rfl rfl)

/-! the words for deeds, and where they stand -/
theorem deedWord_fine {ks : List (Str × Int)} {r : Option (List V)} {w : Str} (h : deedWord ks r = some w) : Fine w := by
  have p1 : Fine (Str.ofString "deed") := ⟨by decide +kernel, by decide +kernel⟩
  have p2 : Fine (Str.ofString "kind") := ⟨by decide +kernel, by decide +kernel⟩
  have p3 : Fine (Str.ofString "person") := ⟨by decide +kernel, by decide +kernel⟩
  have p4 : Fine (Str.ofString "arity") := ⟨by decide +kernel, by decide +kernel⟩
  cases r with
  | none => cases h; exact p1
  | some l =>
    cases l with
    | nil => cases h; exact p1
    | cons x xs =>
      have h : (match kNum ks x with | none => some (Str.ofString "kind") | some k => if ((xs.length : Nat) : Int) = k then (if xs.all labV then none else some (Str.ofString "person")) else some (Str.ofString "arity")) = some w := h
      cases e : kNum ks x with
      | none => rw [e] at h; cases h; exact p2
      | some k =>
        rw [e] at h
        have h : (if ((xs.length : Nat) : Int) = k then (if xs.all labV then none else some (Str.ofString "person")) else some (Str.ofString "arity")) = some w := h
        split at h
        · split at h
          · cases h
          · cases h; exact p3
        · cases h; exact p4
theorem scanD_fine {ks : List (Str × Int)} : ∀ {rs : List (Option (List V))} {n j : Nat} {w : Str}, scanD ks n rs = some (j, w) → Fine w ∧ j < n + rs.length
  | [], _, _, _, h => by cases h
  | r :: rs, n, j, w, h => by
    have h : (match deedWord ks r with | some w => some (n, w) | none => scanD ks (n + 1) rs) = some (j, w) := h
    cases e : deedWord ks r with
    | some w' =>
      rw [e] at h
      cases h
      exact ⟨deedWord_fine e, by simp⟩
    | none =>
      rw [e] at h
      obtain ⟨h1, h2⟩ := scanD_fine h
      exact ⟨h1, by simp; omega⟩
theorem yearWord_fine {ks : List (Str × Int)} {r : Option (List (Option (List V)))} {j : Nat} {w : Str} (l : lenY r ≤ 2000000) (h : yearWord ks r = some (j, w)) : Fine w ∧ j ≤ 2000000 := by
  cases r with
  | none => cases h; exact ⟨⟨by decide +kernel, by decide +kernel⟩, by decide⟩
  | some rs =>
    obtain ⟨a, b⟩ := scanD_fine (rs := rs) h
    have l : rs.length ≤ 2000000 := l
    exact ⟨a, by omega⟩
theorem scanY_fine {ks : List (Str × Int)} : ∀ {rs : List (Option (List (Option (List V))))} {n i j : Nat} {w : Str}, (∀ r ∈ rs, lenY r ≤ 2000000) → scanY ks n rs = some (i, j, w) → Fine w ∧ i < n + rs.length ∧ j ≤ 2000000
  | [], _, _, _, _, _, h => by cases h
  | r :: rs, n, i, j, w, l, h => by
    have h : (match yearWord ks r with | some (i, w) => some (n, i, w) | none => scanY ks (n + 1) rs) = some (i, j, w) := h
    cases e : yearWord ks r with
    | some jw =>
      obtain ⟨j', w'⟩ := jw
      rw [e] at h
      cases h
      obtain ⟨a, b⟩ := yearWord_fine (l r (.head _)) e
      exact ⟨a, by simp, b⟩
    | none =>
      rw [e] at h
      obtain ⟨h1, h2, h3⟩ := scanY_fine (fun r m => l r (.tail _ m)) h
      exact ⟨h1, by simp; omega, h3⟩
theorem YearsIs.few {K : PySem.W.Frag} {H : Hp} {y : V} {r : Option (List (Option (List (Option (List V)))))} (h : YearsIs K H y r) {ks : List (Str × Int)} {i j : Nat} {w : Str} (d : yearsDue ks r = some (i, j, w)) : Fine w ∧ i ≤ 2000000 ∧ j ≤ 2000000 := by
  cases h with
  | oth h l => cases d; exact ⟨⟨by decide +kernel, by decide +kernel⟩, by decide, by decide⟩
  | seq h a l =>
    rename_i b xs rs
    have d : (if tooMany rs = true then some (0, 0, Str.ofString "many") else scanY ks 0 rs) = some (i, j, w) := d
    split at d
    · cases d; exact ⟨⟨by decide +kernel, by decide +kernel⟩, by decide, by decide⟩
    · have lx := Paired.length a
      obtain ⟨h1, h2, h3⟩ := scanY_fine (fun r hr => by
        obtain ⟨m, hm⟩ := List.mem_iff_getElem?.mp hr
        have lt : m < xs.length := by rw [lx]; exact (List.getElem?_eq_some_iff.mp hm).1
        obtain ⟨r', hr', q⟩ := pr_get a (List.getElem?_eq_getElem lt)
        rw [hm] at hr'
        cases hr'
        generalize xs[m] = v at q
        cases q with
        | oth h l => exact Nat.zero_le _
        | seq h a l =>
          have e := Paired.length a
          unfold lenY
          dsimp only
          omega) d
      exact ⟨h1, by omega, h3⟩
def tripD : Option (Nat × Nat × Str) → PyData
  | none => .none
  | some (i, j, w) => .tuple [.int (i : Nat), .int (j : Nat), .str w]
theorem TripIs.dd {H : Hp} {x : V} {t : Option (Nat × Nat × Str)} (h : TripIs H x t) (f : ∀ i j w, t = some (i, j, w) → Fine w ∧ i ≤ 2000000 ∧ j ≤ 2000000) : Dd H 1 x (tripD t) := by
  cases t with
  | none => cases h; exact .non
  | some q =>
    obtain ⟨i, j, w⟩ := q
    obtain ⟨a, rfl, h⟩ := h
    obtain ⟨f1, f2, f3⟩ := f i j w rfl
    exact Dd.tupP h (by show 3 ≤ 32; decide) (.cons (.int _ (by omega)) (.cons (.int _ (by omega)) (.cons (.str _ f1) .nil)))
/-! what was drawn, as years -/
theorem Dd.year {K : PySem.W.Frag} {H : Hp} {n : Nat} {y : V} {d : PyData} (h : Dd H n y d) : ∃ r, YearIs K H y r := by
  have all : ∀ {m : Nat} {xs : List V} {ds : List PyData}, xs.length = ds.length → (∀ (i : Nat) (x : V) (d : PyData), xs[i]? = some x → ds[i]? = some d → Dd H m x d) → ∃ rs, Paired (DeedIs H) xs rs := by
    intro m xs
    induction xs with
    | nil => intro ds _ _; exact ⟨[], .nil⟩
    | cons x xs ih =>
      intro ds e f
      cases ds with
      | nil => cases e
      | cons d ds =>
        obtain ⟨r, hr⟩ := (f 0 x d rfl rfl).deed
        obtain ⟨rs, hrs⟩ := ih (Nat.succ.inj e) fun i x d e1 e2 => f (i + 1) x d e1 e2
        exact ⟨r :: rs, .cons hr hrs⟩
  cases h with
  | non => exact ⟨_, .oth .non rfl⟩
  | bl b => exact ⟨_, .oth (.bl b) rfl⟩
  | int i h => exact ⟨_, .oth (.int i) rfl⟩
  | str z h => exact ⟨_, .oth (.str z) rfl⟩
  | lst h l e f =>
    obtain ⟨rs, q⟩ := all e f
    exact ⟨_, .seq (.lst h) q (by omega)⟩
  | tup h l e f =>
    obtain ⟨rs, q⟩ := all e f
    exact ⟨_, .seq (.tup h) q (by omega)⟩
  | dct h hz hv => exact ⟨_, .oth (.dct _ _ h) rfl⟩
theorem dds_years {K : PySem.W.Frag} {H : Hp} {n : Nat} {xs : List V} {ds : List PyData} (h : Dds H n xs ds) : ∃ rs, Paired (YearIs K H) xs rs := by
  induction h with
  | nil => exact ⟨[], .nil⟩
  | cons h t ih =>
    obtain ⟨r, hr⟩ := h.year (K := K)
    obtain ⟨rs, hrs⟩ := ih
    exact ⟨r :: rs, .cons hr hrs⟩
theorem yR_inj : ∀ {ys zs : List (List (List Str))}, yR ys = yR zs → ys = zs := by
  have inj : ∀ {α β : Type} {f : α → β}, (∀ a b, f a = f b → a = b) → ∀ {xs ys : List α}, xs.map f = ys.map f → xs = ys := by
    intro α β f hf xs
    induction xs with
    | nil => intro ys e; cases ys with | nil => rfl | cons y ys => cases e
    | cons x xs ih =>
      intro ys e
      cases ys with
      | nil => cases e
      | cons y ys =>
        rw [List.map_cons, List.map_cons] at e
        injection e with e1 e2
        rw [hf _ _ e1, ih e2]
  intro ys zs h
  refine inj (fun a b e => ?_) h
  exact inj (fun a b e => inj (fun a b e => V.str.inj e) (Option.some.inj e)) (Option.some.inj e)
/-- lists of such that fit -/
structure FewY (ys : List (List (List Str))) : Prop where
  n : ys.length ≤ 100
  each : ∀ y ∈ ys, y.length ≤ 100 ∧ ∀ d ∈ y, d.length ≤ 100 ∧ ∀ z ∈ d, Fine z
theorem str_thing {H : Hp} {z : Str} (f : Fine z) : Thing H (.str z) "str" := ⟨.str z, fun y e => by cases e; exact ⟨f.1, Nat.le_trans f.2 (by decide)⟩⟩
theorem strs_things {H : Hp} {d : List Str} (f : ∀ z ∈ d, Fine z) : ∀ x ∈ d.map V.str, ∃ n, Thing H x n := fun x hx => by
  obtain ⟨z, hz, rfl⟩ := List.mem_map.mp hx
  exact ⟨_, str_thing (f z hz)⟩
def IsMk (mk : List V → HO) : Prop := mk = .lst ∨ mk = .tup
theorem IsMk.seq {mk : List V → HO} (h : IsMk mk) {K : PySem.W.Frag} {H : Hp} {a : Addr} {xs : List V} (e : H a = some (mk xs)) : IsSeq K H a xs := by
  rcases h with rfl | rfl
  · exact .lst e
  · exact .tup e
theorem years_of {K : PySem.W.Frag} {H : Hp} {mk : List V → HO} (hm : IsMk mk) : ∀ {xs : List V} {ys : List (List (List Str))}, Paired (Ds mk H) xs ys → (∀ y ∈ ys, y.length ≤ 100 ∧ ∀ d ∈ y, d.length ≤ 100 ∧ ∀ z ∈ d, Fine z) → Paired (YearIs K H) xs (yR ys) := by
  intro xs ys h
  induction h with
  | nil => intro _; exact .nil
  | cons h t ih =>
    rename_i x y xs ys
    intro f
    refine .cons ?_ (ih fun y m => f y (.tail _ m))
    obtain ⟨a, zs, rfl, ha, pz⟩ := h
    obtain ⟨f1, f2⟩ := f y (.head _)
    refine .seq (hm.seq ha) ?_ (by rw [Paired.length pz]; omega)
    clear ih f f1 ha t
    induction pz with
    | nil => exact .nil
    | cons h t ih =>
      rename_i z d zs ds
      refine .cons ?_ (ih fun d m => f2 d (.tail _ m))
      obtain ⟨b, rfl, hb⟩ := h
      obtain ⟨g1, g2⟩ := f2 d (.head _)
      rcases hm with rfl | rfl
      · exact .lst hb (strs_things g2) (by rw [List.length_map]; omega)
      · exact .tup hb (strs_things g2) (by rw [List.length_map]; omega)
theorem Ys.years {K : PySem.W.Frag} {H : Hp} {mk : List V → HO} (hm : IsMk mk) {x : V} {ys : List (List (List Str))} (h : Ys mk H x ys) (f : FewY ys) : YearsIs K H x (some (yR ys)) := by
  obtain ⟨a, xs, rfl, ha, p⟩ := h
  exact .seq (hm.seq ha) (years_of hm p f.each) (by rw [Paired.length p]; have := f.n; omega)
theorem GoodY.few {ks : List (Str × Int)} {ps : List Str} {ys : List (List (List Str))} (g : GoodY ks ps ys) (gk : GoodK ks) (l : ∀ y ∈ ps, Lb y) : FewY ys := by
  refine ⟨by have := g.1; omega, fun y hy => ?_⟩
  obtain ⟨h1, h2⟩ := g.fine gk l y hy
  exact ⟨by omega, fun d hd => ⟨by have := (h2 d hd).2.1; omega, fun z hz => ((h2 d hd).2.2 z hz).fine⟩⟩
theorem count_few : ∀ {ys : List (List (List Str))} {n : Nat}, (∀ y ∈ ys, y.length ≤ n) → countD (yR ys) ≤ ys.length * n
  | [], n, _ => by simp [countD, yR]
  | y :: ys, n, h => by
    have ih := count_few (ys := ys) fun y m => h y (.tail _ m)
    have h1 := h y (.head _)
    have e : countD (yR (y :: ys)) = y.length + countD (yR ys) := by simp [countD, yR, lenY, dR]
    rw [e, List.length_cons, Nat.add_mul]
    omega
theorem due_none {ks : List (Str × Int)} {ys : List (List (List Str))} (f : FewY ys) (h : ∀ y ∈ ys, ∀ d ∈ y, deedWord ks (some (d.map V.str)) = none) : yearsDue ks (some (yR ys)) = none := by
  have c := count_few (n := 100) fun y hy => (f.each y hy).1
  have n := f.n
  have ln : (yR ys).length = ys.length := by simp [yR]
  have c2 : ys.length * 100 ≤ 10000 := by omega
  have tm : tooMany (yR ys) = false := by
    unfold tooMany
    rw [decide_eq_false (show ¬ 1000000 < (yR ys).length by omega), decide_eq_false (show ¬ 1000000 < countD (yR ys) by omega)]
    rfl
  have e : yearsDue ks (some (yR ys)) = (if tooMany (yR ys) = true then some (0, 0, Str.ofString "many") else scanY ks 0 (yR ys)) := rfl
  rw [e, tm, if_neg Bool.false_ne_true]
  clear e tm c2 ln n c f
  have go : ∀ {ys : List (List (List Str))} {i : Nat}, (∀ y ∈ ys, ∀ d ∈ y, deedWord ks (some (d.map V.str)) = none) → scanY ks i (yR ys) = none := by
    intro ys
    induction ys with
    | nil => intro i _; rfl
    | cons y ys ih =>
      intro i h
      have yw : yearWord ks (some (dR y)) = none := by
        show scanD ks 0 (dR y) = none
        have hy := h y (.head _)
        clear h ih
        generalize 0 = j
        induction y generalizing j with
        | nil => rfl
        | cons d y ih =>
          show (match deedWord ks (some (d.map V.str)) with | some w => some (j, w) | none => scanD ks (j + 1) (dR y)) = none
          rw [hy d (.head _)]
          exact ih (fun d m => hy d (.tail _ m)) (j + 1)
      show (match yearWord ks (some (dR y)) with | some (i', w) => some (i, i', w) | none => scanY ks (i + 1) (yR ys)) = none
      rw [yw]
      exact ih fun y m => h y (.tail _ m)
  exact go h
theorem GoodY.due {ks : List (Str × Int)} {ps : List Str} {ys : List (List (List Str))} (g : GoodY ks ps ys) (gk : GoodK ks) (l : ∀ y ∈ ps, Lb y) : yearsDue ks (some (yR ys)) = none :=
  due_none (g.few gk l) fun y hy d hd => ((g.2 y hy).2 d hd).due gk l
theorem Made.rot {ks : List (Str × Int)} {ps zs : List Str} (m : Made ks ps zs) : Made (rot ks) ps zs := by
  obtain ⟨r, hr, q⟩ := m
  refine ⟨r, ?_, q⟩
  cases ks with
  | nil => cases hr
  | cons k ks =>
    rcases List.mem_cons.mp hr with e | e
    · exact List.mem_append_right _ (by rw [e]; exact List.mem_singleton.mpr rfl)
    · exact List.mem_append_left _ e
theorem GoodY.rot {ks : List (Str × Int)} {ps : List Str} {ys : List (List (List Str))} (g : GoodY ks ps ys) : GoodY (Kx.rot ks) ps ys := ⟨g.1, fun y hy => ⟨(g.2 y hy).1, fun d hd => ((g.2 y hy).2 d hd).rot⟩⟩
theorem GoodK.kb {ks : List (Str × Int)} (g : GoodK ks) : kbOk ks := fun q hq => ⟨(g.each q hq).2.2.1, (g.each q hq).2.2.2⟩
theorem GoodK.ok {ks : List (Str × Int)} (g : GoodK ks) : OkK ks := fun q hq => (lab_ok (g.each q hq).1).1
theorem FewY.ok {ys : List (List (List Str))} (f : FewY ys) : OkY ys := fun y hy d hd z hz => (((f.each y hy).2 d hd).2 z hz).1
end Kx

set_option maxHeartbeats 16000000
namespace Kx
open PySem L2
theorem pi_seqK {X : Cx} {K : PySem.W.Frag} (h : X.K = K) {tg l : Expr} {tl : TE} (hl : PE X l tl) : PI X tg l (iSeq K tl) := by
  subst h
  exact pi_seq hl
abbrev E0x : XK := fun _ _ _ => False
theorem Ys.few {H : Hp} {mk : List V → HO} {x : Addr} {ys : List (List (List Str))} (h : Ys mk H (.ref x) ys) : ∃ xs, H x = some (mk xs) ∧ Paired (Ds mk H) xs ys := by
  obtain ⟨a, xs, e, h1, h2⟩ := h
  cases e
  exact ⟨xs, h1, h2⟩
/-- what stands all the time: the hand, rows, persons, kinds, good years -/
structure LawC (CK : Addr) (H : Hp) (p q b c kp g : Addr) (ks : List (Str × Int)) (ps : List Str) (ys : List (List (List Str))) : Prop where
  M : Mat H p q b c ks ps
  kd : KindsAt CK (wo p H) kp (vv ks)
  yg : Ys .lst (wo p H) (.ref g) ys
theorem LawC.keep {CK p q b c kp g : Addr} {H H' : Hp} {ks : List (Str × Int)} {ps : List Str} {ys : List (List (List Str))} (l : LawC CK H p q b c kp g ks ps ys) (k : Keep H H' p) (hp : HandAt H' p q) : LawC CK H' p q b c kp g ks ps ys :=
  ⟨l.M.keep k hp, l.kd.keep (wo_keep k), l.yg.keep (wo_keep k)⟩
theorem LawC.same {CK p q b c kp g : Addr} {H H' : Hp} {ks : List (Str × Int)} {ps : List Str} {ys : List (List (List Str))} (l : LawC CK H p q b c kp g ks ps ys) (s : Same H H') : LawC CK H' p q b c kp g ks ps ys := l.keep (Same.keep s) (l.M.hp.same s)
structure LawD (C CK : Addr) (H : Hp) (p q b c kp g hh dh : Addr) (ks : List (Str × Int)) (ps : List Str) (ys : List (List (List Str))) : Prop where
  L : LawC CK H p q b c kp g ks ps ys
  hat : HistAt C CK (wo p H) hh ks ys
  dy : Ys .tup (wo p H) (.ref dh) ys
theorem LawD.keep {C CK p q b c kp g hh dh : Addr} {H H' : Hp} {ks : List (Str × Int)} {ps : List Str} {ys : List (List (List Str))} (l : LawD C CK H p q b c kp g hh dh ks ps ys) (k : Keep H H' p) (hp : HandAt H' p q) : LawD C CK H' p q b c kp g hh dh ks ps ys :=
  ⟨l.L.keep k hp, l.hat.keep (wo_keep k), l.dy.keep (wo_keep k)⟩
theorem LawD.same {C CK p q b c kp g hh dh : Addr} {H H' : Hp} {ks : List (Str × Int)} {ps : List Str} {ys : List (List (List Str))} (l : LawD C CK H p q b c kp g hh dh ks ps ys) (s : Same H H') : LawD C CK H' p q b c kp g hh dh ks ps ys :=
  l.keep (Same.keep s) (l.L.M.hp.same s)
theorem ne_same {C CK x y : Addr} {H : Hp} {ks : List (Str × Int)} {ys : List (List (List Str))} {Q : VK} (h1 : HistAt C CK H x ks ys) (h2 : HistAt C CK H y ks ys) (o : OkK ks) (oy : OkY ys) (q : Q (.bl false) H) : rNeOwn C (spHEq C CK) E0x (.ref x) (.ref y) H Q := by
  obtain ⟨dx, fs, _, _, i1, _, _, _, _, _⟩ := h1.ob
  obtain ⟨dy, gs, _, _, j1, _, _, _, _, _⟩ := h2.ob
  refine ⟨x, dx, fs, y, dy, gs, rfl, i1, rfl, j1, _, _, ks, ys, rfl, h1, o, oy, .inl ⟨_, _, _, rfl, h2, o, oy, _, rfl, ?_⟩⟩
  rw [decide_eq_true (⟨rfl, rfl⟩ : ks = ks ∧ ys = ys)]
  exact q
theorem eq_hist {K : PySem.W.Frag} {C CK x y : Addr} {H : Hp} {ks ls : List (Str × Int)} {ys zs : List (List (List Str))} {Q : VK} (nf : PySem.W.notFirst K C (.ref C) = true) (h1 : HistAt C CK H x ks ys) (h2 : HistAt C CK H y ls zs) (o : OkK ks) (oy : OkY ys) (o' : OkK ls) (oy' : OkY zs) (q : Q (.bl (decide (ks = ls ∧ ys = zs))) H) : rEqOwn K C (spHEq C CK) E0x (.ref x) (.ref y) H Q := by
  obtain ⟨dx, fs, _, _, i1, _, _, _, _, _⟩ := h1.ob
  obtain ⟨dy, gs, _, _, j1, _, _, _, _, _⟩ := h2.ob
  exact ⟨x, dx, fs, rfl, i1, .inl ⟨y, dy, gs, C, rfl, j1, nf⟩, _, _, ks, ys, rfl, h1, o, oy, .inl ⟨_, _, _, rfl, h2, o', oy', _, rfl, q⟩⟩
theorem mk_kinds {K : PySem.W.Frag} {C CB : Addr} {ls : List (Str × Int)} {l : Addr} {Hx : Hp} {Q' : Addr → Hp → Prop} (gl : GoodK ls) (h : GoodL Hx l ls) (q' : ∀ x H', Hx x = none → Same Hx H' → KindsAt C H' x (vv ls) → Q' x H') :
    ∀ x dx, Hx x = none → Hx dx = none → dx ≠ x → spKinds K C CB (.ref x :: ([.ref l] ++ [])) (upd (upd Hx dx (.own x)) x (.ins C dx [])) (fun v H2 => v = .non ∧ Q' x H2) (fun _ _ _ => False) := by
  obtain ⟨xs, hx, it⟩ := h
  intro x dx hx0 hdx ne
  have s0 : Same Hx (upd (upd Hx dx (.own x)) x (.ins C dx [])) := (sameUpd (Same.refl _) hdx).trans (sameUpd (Same.refl _) (by rw [upd_ne ne.symm]; exact hx0))
  have ar := rows_of (it.keep s0) gl
  refine ⟨x, dx, .ref l, some (rsOf ls), rfl, upd_same, .lst (s0 _ _ hx) ar (by rw [ar.1]; simp [rsOf]; have := gl.hi; omega), (fun e => by cases e; rw [hx] at hx0; cases hx0), (fun e => by cases e; rw [hx] at hdx; cases hdx), ?_⟩
  rw [good_due gl]
  intro rs H' er kp ka
  cases er
  rw [pr_rsOf] at ka
  exact ⟨rfl, q' x H' hx0 (fun c o e => kp c o (s0 c o e) (ne_of_none e hx0)) ka⟩
/-- History(kinds, years) of good ones -/
theorem mk_hist {K : PySem.W.Frag} {C CK CB kp l : Addr} {ls : List (Str × Int)} {ys : List (List (List Str))} {Hx : Hp} {Q' : Addr → Hp → Prop} (hk : KindsAt CK Hx kp (vv ls)) (kb : kbOk ls) (hy : YearsIs K Hx (.ref l) (some (yR ys))) (due : yearsDue ls (some (yR ys)) = none)
    (q' : ∀ x H', Hx x = none → Same Hx H' → HistAt C CK H' x ls ys → Q' x H') :
    ∀ x dx, Hx x = none → Hx dx = none → dx ≠ x → spHist K C CK CB (.ref x :: ([.ref kp, .ref l] ++ [])) (upd (upd Hx dx (.own x)) x (.ins C dx [])) (fun v H2 => v = .non ∧ Q' x H2) (fun _ _ _ => False) := by
  intro x dx hx0 hdx ne
  refine hist_free hk kb hy due hx0 hdx fun zs H' e s hh => ?_
  have e2 := yR_inj (Option.some.inj e)
  subst e2
  exact ⟨rfl, q' x H' hx0 s hh⟩
theorem Ss.wo {H : Hp} {x : V} {zs : List Str} {p q : Addr} (h : Ss .tup H x zs) (hp : HandAt H p q) : Ss .tup (wo p H) x zs := by
  obtain ⟨cs, a, b, c, ha, hb⟩ := hp
  obtain ⟨d, e, h⟩ := h
  exact ⟨d, e, wo_at h fun z => by rw [z, ha] at h; cases h⟩
theorem Ds.wo {H : Hp} {x : V} {y : List (List Str)} {p q : Addr} (h : Ds .tup H x y) (hp : HandAt H p q) : Ds .tup (wo p H) x y := by
  obtain ⟨d, xs, e, h, px⟩ := h
  refine ⟨d, xs, e, wo_at h fun z => ?_, pr_imp px fun _ _ h => h.wo hp⟩
  obtain ⟨cs, a, b, c, ha, hb⟩ := hp
  rw [z, ha] at h; cases h
theorem Ys.wo {H : Hp} {x : V} {ys : List (List (List Str))} {p q : Addr} (h : Ys .tup H x ys) (hp : HandAt H p q) : Ys .tup (wo p H) x ys := by
  obtain ⟨d, xs, e, h, px⟩ := h
  refine ⟨d, xs, e, wo_at h fun z => ?_, pr_imp px fun _ _ h => h.wo hp⟩
  obtain ⟨cs, a, b, c, ha, hb⟩ := hp
  rw [z, ha] at h; cases h
theorem HistAt.wo {C CK : Addr} {H : Hp} {h : Addr} {ks : List (Str × Int)} {ys : List (List (List Str))} {p q : Addr} (hh : HistAt C CK H h ks ys) (hp : HandAt H p q) : HistAt C CK (wo p H) h ks ys := by
  obtain ⟨dx, kp, yt, h1, h2, h3⟩ := hh.ex
  refine ⟨dx, kp, yt, wo_at h1 fun z => ?_, h2.wo hp, h3.wo hp⟩
  obtain ⟨cs, a, b, c, ha, hb⟩ := hp
  rw [z, ha] at h1; cases h1
theorem fm_bound {α β : Type} {f : α → List β} {n : Nat} : ∀ {xs : List α}, (∀ x ∈ xs, (f x).length ≤ n) → (xs.flatMap f).length ≤ xs.length * n
  | [], _ => by simp
  | x :: xs, h => by
    have ih := fm_bound (xs := xs) fun y m => h y (.tail _ m)
    have h1 := h x (.head _)
    rw [List.flatMap_cons, List.length_append, List.length_cons, Nat.add_mul]
    omega
theorem FewY.pers {ys : List (List (List Str))} (f : FewY ys) : (allP ys).length ≤ 1000000 := by
  have h1 : ∀ y ∈ ys, (yearP y).length ≤ 10000 := fun y hy => by
    have h2 : (yearP y).length ≤ y.length * 100 := fm_bound fun d hd => by
      have := ((f.each y hy).2 d hd).1
      show d.tail.length ≤ 100
      rw [List.length_tail]
      omega
    have := (f.each y hy).1
    omega
  have h3 : (allP ys).length ≤ ys.length * 10000 := fm_bound h1
  have := f.n
  omega
theorem Ys.ddT {H : Hp} {x : V} {ys : List (List (List Str))} (h : Ys .tup H x ys) (n : ys.length ≤ 32) (f : ∀ y ∈ ys, y.length ≤ 32 ∧ ∀ d ∈ y, d.length ≤ 32 ∧ ∀ z ∈ d, Fine z) : Dd H 3 x (dYs ys) := by
  have strz : ∀ {zs : List Str}, (∀ z ∈ zs, Fine z) → Dds H 0 (zs.map V.str) (zs.map PyData.str) := fun h => strs_dds h
  have deeds : ∀ {xs : List V} {y : List (List Str)}, Paired (Ss .tup H) xs y → (∀ d ∈ y, d.length ≤ 32 ∧ ∀ z ∈ d, Fine z) → Dds H 1 xs (y.map dD) := by
    intro xs y p
    induction p with
    | nil => intro _; exact .nil
    | cons h t ih =>
      rename_i x d xs y
      intro f
      obtain ⟨a, rfl, ha⟩ := h
      obtain ⟨f1, f2⟩ := f d (.head _)
      exact .cons (Dd.tupP ha (by rw [List.length_map]; exact f1) (strz f2)) (ih fun d m => f d (.tail _ m))
  have all : ∀ {xs : List V} {ys : List (List (List Str))}, Paired (Ds .tup H) xs ys → (∀ y ∈ ys, y.length ≤ 32 ∧ ∀ d ∈ y, d.length ≤ 32 ∧ ∀ z ∈ d, Fine z) → Dds H 2 xs (ys.map dDs) := by
    intro xs ys p
    induction p with
    | nil => intro _; exact .nil
    | cons h t ih =>
      rename_i x y xs ys
      intro f
      obtain ⟨a, zs, rfl, ha, pz⟩ := h
      obtain ⟨f1, f2⟩ := f y (.head _)
      exact .cons (Dd.tupP ha (by rw [Paired.length pz]; exact f1) (deeds pz f2)) (ih fun y m => f y (.tail _ m))
  obtain ⟨a, xs, rfl, ha, p⟩ := h
  exact Dd.tupP ha (by rw [Paired.length p]; exact n) (all p f)
theorem addAll_mem : ∀ {zs acc : List Str} {z : Str}, z ∈ addAll acc zs → z ∈ acc ∨ z ∈ zs
  | [], acc, z, h => .inl h
  | y :: zs, acc, z, h => by
    have h : z ∈ addAll (add1 acc y) zs := h
    rcases addAll_mem h with h | h
    · unfold add1 at h
      split at h
      · exact .inl h
      · rcases List.mem_append.mp h with h | h
        · exact .inl h
        · exact .inr (by rw [List.mem_singleton.mp h]; exact .head _)
    · exact .inr (.tail _ h)
theorem FewY.pok {ys : List (List (List Str))} (f : FewY ys) : ∀ z ∈ persOf ys, PyData.strOk z = true := fun z hz => by
  rcases addAll_mem hz with h | h
  · cases h
  · obtain ⟨y, hy, h⟩ := List.mem_flatMap.mp h
    obtain ⟨d, hd, h⟩ := List.mem_flatMap.mp h
    exact (((f.each y hy).2 d hd).2 z (List.mem_of_mem_tail h)).1
theorem at0 (x : V) (xs : List V) : atI (x :: xs) 0 = some x := by
  have h : ixN (x :: xs).length 0 = some 0 := by
    unfold ixN
    rw [if_pos (by decide), if_pos (by rw [List.length_cons]; omega)]
    rfl
  unfold atI
  rw [h]
  rfl
theorem at1 (x y : V) (xs : List V) : atI (x :: y :: xs) 1 = some y := by
  have h : ixN (x :: y :: xs).length 1 = some 1 := by
    unfold ixN
    rw [if_pos (by decide), if_pos (by rw [List.length_cons, List.length_cons]; omega)]
    rfl
  unfold atI
  rw [h]
  rfl
theorem sum_len : ∀ ys : List (List (List Str)), (ys.map fun d => (d.length : Int)).sum = ((dCount ys : Nat) : Int)
  | [] => rfl
  | y :: ys => by
    have ih := sum_len ys
    unfold dCount at ih ⊢
    rw [List.map_cons, List.sum_cons, ih, List.map_cons, List.sum_cons]
    omega
theorem shaped_dD {d : List Str} (h : ∀ z ∈ d, PyData.strOk z = true) : SeqAt.shaped (dD d) = true := by
  obtain ⟨a, b⟩ := lay_dD h
  unfold SeqAt.shaped
  rw [Bool.and_eq_true]
  exact ⟨a, decide_eq_true (by omega)⟩
end Kx

set_option maxHeartbeats 8000000
namespace Kx
open PySem PySem.Spec PyProof.Rows L2
/-! years as tuples of tuples -/
def Sx (H : Hp) (x : V) (z : List Str) : Prop := Ss .lst H x z ∨ Ss .tup H x z
def Dx (H : Hp) (x : V) (y : List (List Str)) : Prop := ∃ a xs, x = .ref a ∧ H a = some (.lst xs) ∧ Paired (Sx H) xs y
def spTuples : Sp := fun vs H Q _ => ∃ (a : Addr) (xs : List V) (ys : List (List (List Str))), vs = [.ref a] ∧ H a = some (.lst xs) ∧ Paired (Dx H) xs ys ∧ ys.length ≤ 1000 ∧ (∀ y ∈ ys, y.length ≤ 1000) ∧ ∀ t H', H t = none → Same H H' → Ys .tup H' (.ref t) ys → Q (.ref t) H'
abbrev nTup : List Str := ["_law_years", "_law_year", "_law_deed"]
abbrev scYear4 : Scope := { kind := ScopeKind.function, names := [(Str.ofString ".0", NameKind.local), (Str.ofString "_law_year", NameKind.local), (Str.ofString "tuple", NameKind.globalImplicit)], isGenerator := false, isCoroutine := false }
section
variable {P : Program} {w : World} {K : PySem.W.Frag} {mg : Str → Option Value} {base : Heap}
theorem scTup : FnScope nTup ["_law_years"] (defScope sLTuples) := ⟨rfl, rfl, rfl, by decide +kernel, rfl, by decide +kernel, by decide +kernel⟩
theorem ok_tuples {f : Addr} {fd : FuncData} (F : Fun K "_law_tuples" "_law_tuples" sLTuples f fd) (m : mg "_law_tuples" = some (.ref f)) (B : Bm mg) : HasF P w K mg base "_law_tuples" 1 ["_law_years"] spTuples := by
  refine ⟨f, fd, ?_, m, F.kp, F.binds fun _ _ _ _ _ _ us hl => match us, hl with | [_], _ => rfl⟩
  refine F.ok scTup (fun vs H Q E h => ?_) (fun cdv A outer s H vs Q E hr h => ?_)
  · obtain ⟨a, b, c, rfl, _⟩ := h
    rfl
  · obtain ⟨a, xs, ys, rfl, ha, px, n1, n2, k⟩ := h
    have lx := Paired.length px
    refine ⟨_, pss_one (ps_ret (pe_callTy call_tuple_of (by rfl) B.tuple (by decide +kernel) (pa_cons (pe_lc (own := [("_law_year", 1)]) (g := gName 1) (tt := tYes) (by rfl) scTup.nd (pi_seq (pv 0)) (blkOk_by (own := [("_law_year", 1)]) (N := nTup) (sc := defScope sLTuples) (by decide +kernel)) (fun _ _ _ _ _ => pg_name (i := 1) scTup.nd rfl (Or.inl rfl)) (fun _ _ _ _ _ => pts_nil)
      (fun _ _ _ _ _ => (pe_callTy (call_tupK (K := K) rfl) (by rfl) B.tuple (by decide +kernel) (pa_cons (pe_lc (own := [("_law_deed", 2)]) (g := gName 2) (tt := tYes) (by rfl) scTup.nd (pi_seqK (K := K) rfl (pv 1)) (blkOk_by (own := [("_law_deed", 2)]) (N := nTup) (sc := scYear4) (by decide +kernel)) (fun _ _ _ _ _ => pg_name (i := 2) scTup.nd rfl (Or.inl rfl)) (fun _ _ _ _ _ => pts_nil) (fun _ _ _ _ _ => (pe_callTy (call_tupK (K := K) rfl) (by rfl) B.tuple (by decide +kernel) (pa_cons (pv 2) pa_nil)))) pa_nil)))) pa_nil))), ?_⟩
    refine ⟨_, rfl, a, rfl, lc_pure (g := gName 1) (fun j v H' => ∀ d, ys[j]? = some d → Ds .tup H' v d) (fun j v H' H'' q s d e => (q d e).keep s) (IsSeq.lst ha) (Same.refl _) (by omega) ?_ ?_ fun x σ H Q Q' q z => q _ _ z⟩
    · rintro D i x H3 k' hi hD s3 ⟨acc, hacc⟩ kk
      obtain ⟨yr, hyr, yb, zs, rfl, hyb, pz⟩ := pr_get px hi
      have yb3 := s3 _ _ hyb
      have lz := Paired.length pz
      have ny := n2 yr (List.mem_of_getElem? hyr)
      refine ⟨rfl, ?_⟩
      refine ⟨_, rfl, yb, rfl, lc_pure (g := gName 2) (fun j v H' => ∀ d, yr[j]? = some d → Ss .tup H' v d) (fun j v H' H'' q s d e => (q d e).keep s) (IsSeq.lst yb3) (Same.refl _) (by omega) ?_ ?_ fun x σ H Q Q' q z => q _ _ z⟩
      · rintro D2 j x2 H4 k2 hj hD2 s4 ⟨acc2, hacc2⟩ kk2
        obtain ⟨d, hd, hdb⟩ := pr_get pz hj
        refine ⟨rfl, ?_⟩
        have s34 := s3.trans s4
        rcases hdb with ⟨db, rfl, hdb⟩ | ⟨db, rfl, hdb⟩
        · refine ⟨_, rfl, db, _, rfl, .inl ⟨SqL.of (s34 _ _ hdb), fun l hl => kk2 _ _ (sameUpd (Same.refl _) hl) fun d' e => ?_⟩⟩
          rw [hd] at e
          cases e
          exact ⟨l, rfl, wo_at upd_same (ne_of_none hacc2 hl).symm⟩
        · refine ⟨_, rfl, db, _, rfl, .inr ⟨SqT.of (s34 _ _ hdb), kk2 _ _ (Same.refl _) fun d' e => ?_⟩⟩
          rw [hd] at e
          cases e
          exact ⟨db, rfl, wo_at (s34 _ _ hdb) fun z => by have q := s34 _ _ hdb; rw [z, hacc2] at q; cases q⟩
      · intro D2 zs2 H4 hD2 s4 hd2 lz2 g2
        refine ⟨D2, zs2, rfl, .inl ⟨SqL.of hd2, fun l hl => kk _ _ (sameUpd s4 hl) fun d' e => ?_⟩⟩
        rw [hyr] at e
        cases e
        have lD : l ≠ D := (ne_of_none (s4 _ _ hacc) hl).symm
        refine ⟨l, zs2, rfl, wo_at upd_same lD, pr_of (by omega) fun j v d e1 e2 => ?_⟩
        obtain ⟨u, rfl, hu⟩ := (g2 j v e1 d e2)
        obtain ⟨hu2, n1⟩ := wo_get hu
        have uD : u ≠ D := fun z => by rw [z, s4 _ _ hacc] at hu2; cases hu2
        exact ⟨u, rfl, wo_at (by rw [upd_ne (ne_of_none hu2 hl)]; exact hu2) uD⟩
    · intro D zs H3 hD s3 hd3 lz3 g3
      refine ⟨D, zs, rfl, .inl ⟨SqL.of hd3, fun l hl => ?_⟩⟩
      have s5 : Same H (upd H3 l (.tup zs)) := sameUpd s3 hl
      refine k l _ (s3.free hl) s5 ⟨l, zs, rfl, upd_same, pr_of (by omega) fun j v d e1 e2 => ?_⟩
      exact (g3 j v e1 d e2).keep (wo_same.trans (sameUpd (Same.refl _) hl))
end
end Kx

set_option maxHeartbeats 4000000
namespace Kx
open PySem L2
/-! [x for x in xs if ..]: only whether anything is left is told -/
def okV (y : V) : Prop := flatV y = true ∨ ∃ c, y = .ref c
theorem lc_filt {K : PySem.W.Frag} {a : Addr} {xs : List V} {g : TG} {tt : TT} {te : TE} {vs : List Nat} {σ : L2.St} {H0 H1 : Hp} {Qd : Addr → Hp → Prop} (bad : Nat → Bool) (q : IsSeq K H0 a xs) (s0 : Same H0 H1) (hz : xs.length ≤ 2000000)
    (step : ∀ D i x H (kt : V → Hp → Prop) (kf : Hp → Prop), xs[i]? = some x → H1 D = none → Same H1 H → (∃ acc, H D = some (.lst acc)) → (bad i = true → ∀ y H4, okV y → Same H H4 → kt y H4) → (bad i = false → ∀ H4, Same H H4 → kf H4) →
      g x (wipe σ vs) H fun σ2 H2 => wipe σ2 vs = wipe σ vs ∧ tt σ2 H2 fun b H3 => if b = true then te σ2 H3 kt else kf H3)
    (after : ∀ D ys H, H1 D = none → Same H1 H → H D = some (.lst ys) → ys.length ≤ xs.length → (∀ z ∈ ys, okV z) → (ys = [] ↔ ∀ i, i < xs.length → bad i = false) → Qd D H) : LcB K a g tt te vs σ H1 Qd := by
  refine lc_sq q s0 fun D hD => ⟨fun i H => Same H1 H ∧ ∃ acc, H D = some (.lst acc) ∧ acc.length ≤ i ∧ i ≤ xs.length ∧ (∀ z ∈ acc, okV z) ∧ (acc = [] ↔ ∀ j, j < i → bad j = false), ⟨sameUpd (Same.refl _) hD, [], upd_same, Nat.le_refl _, Nat.zero_le _, (fun z h => nomatch h), ⟨fun _ j h => absurd h (Nat.not_lt_zero _), fun _ => rfl⟩⟩, fun i H p => s0.trans p.1, ?_, ?_⟩
  · rintro i x H hi ⟨s1, acc, hd, al, _, ok, ha⟩
    have lt : i < xs.length := (List.getElem?_eq_some_iff.mp hi).1
    refine step D i x H _ _ hi hD s1 ⟨acc, hd⟩ (fun hb y H4 oy s4 => ?_) (fun hb H4 s4 => ?_)
    · refine ⟨acc, s4 _ _ hd, line2 (by omega), woD hD s1 s4, acc ++ [y], upd_same, by simp; omega, lt, fun z hz => (List.mem_append.mp hz).elim (ok z) fun h => by rw [List.mem_singleton.mp h]; exact oy, ⟨fun e => by simp at e, fun e => ?_⟩⟩
      rw [e i (Nat.lt_succ_self _)] at hb
      cases hb
    · refine ⟨s1.trans s4, acc, s4 _ _ hd, by omega, lt, ok, ha.trans ⟨fun e j hj => ?_, fun e j hj => e j (by omega)⟩⟩
      by_cases ej : j = i
      · rw [ej]; exact hb
      · exact e j (by omega)
  · rintro H ⟨s1, acc, hd, al, _, ok, ha⟩
    exact after D acc H hD s1 hd al ok ha
theorem lc_filtE {K : PySem.W.Frag} {a : Addr} {xs : List V} {g : TG} {tt : TT} {te : TE} {vs : List Nat} {σ : L2.St} {H0 H1 : Hp} {Qd : Addr → Hp → Prop} (bad : Nat → Bool) (q : IsSeq K H0 a xs) (s0 : Same H0 H1) (hz : xs.length ≤ 2000000)
    (step : ∀ D i x H T (kt : V → Hp → Prop) (kf : Hp → Prop), xs[i]? = some x → H1 D = none → Same H1 H → H T = none → (bad i = true → ∀ y H4, okV y → Same (upd H T (.tup [.int (i : Nat), x])) H4 → kt y H4) → (bad i = false → ∀ H4, Same (upd H T (.tup [.int (i : Nat), x])) H4 → kf H4) →
      g (.ref T) (wipe σ vs) (upd H T (.tup [.int (i : Nat), x])) fun σ2 H2 => wipe σ2 vs = wipe σ vs ∧ tt σ2 H2 fun b H3 => if b = true then te σ2 H3 kt else kf H3)
    (after : ∀ D ys H, H1 D = none → Same H1 H → H D = some (.lst ys) → ys.length ≤ xs.length → (∀ z ∈ ys, okV z) → (ys = [] ↔ ∀ i, i < xs.length → bad i = false) → Qd D H) :
    (SqL K H1 a xs ∧ LcE (Ite K a) g tt te vs σ H1 Qd) ∨ (SqT K H1 a xs ∧ LcE (IteT K a) g tt te vs σ H1 Qd) := by
  refine lc_en q s0 fun D hD => ⟨fun i H => Same H1 H ∧ ∃ acc, H D = some (.lst acc) ∧ acc.length ≤ i ∧ i ≤ xs.length ∧ (∀ z ∈ acc, okV z) ∧ (acc = [] ↔ ∀ j, j < i → bad j = false), ⟨sameUpd (Same.refl _) hD, [], upd_same, Nat.le_refl _, Nat.zero_le _, (fun z h => nomatch h), ⟨fun _ j h => absurd h (Nat.not_lt_zero _), fun _ => rfl⟩⟩, fun i H p => s0.trans p.1, ?_, ?_⟩
  · rintro i x H T hi ⟨s1, acc, hd, al, _, ok, ha⟩ hT
    have lt : i < xs.length := (List.getElem?_eq_some_iff.mp hi).1
    have sT : Same H (upd H T (.tup [.int (i : Nat), x])) := sameUpd (Same.refl _) hT
    refine step D i x H T _ _ hi hD s1 hT (fun hb y H4 oy s4 => ?_) (fun hb H4 s4 => ?_)
    · refine ⟨acc, s4 _ _ (sT _ _ hd), line2 (by omega), woD hD s1 (sT.trans s4), acc ++ [y], upd_same, by simp; omega, lt, fun z hz => (List.mem_append.mp hz).elim (ok z) fun h => by rw [List.mem_singleton.mp h]; exact oy, ⟨fun e => by simp at e, fun e => ?_⟩⟩
      rw [e i (Nat.lt_succ_self _)] at hb
      cases hb
    · refine ⟨s1.trans (sT.trans s4), acc, s4 _ _ (sT _ _ hd), by omega, lt, ok, ha.trans ⟨fun e j hj => ?_, fun e j hj => e j (by omega)⟩⟩
      by_cases ej : j = i
      · rw [ej]; exact hb
      · exact e j (by omega)
  · rintro H ⟨s1, acc, hd, al, _, ok, ha⟩
    exact after D acc H hD s1 hd al ok ha
/-- xs != [] -/
theorem ne_nil {K : PySem.W.Frag} {H : Hp} {D : Addr} {ys : List V} {Q : VK} (hd : H D = some (.lst ys)) (ok : ∀ z ∈ ys, flatV z = true ∨ ∃ c, z = .ref c) (l : Addr) (hl : H l = some (.lst [])) (q : Q (.bl (!ys.isEmpty)) H) : rNeL K (.ref D) (.ref l) H Q := by
  refine ⟨D, l, ys, [], rfl, rfl, SqL.of hd, SqL.of hl, ?_⟩
  cases ys with
  | nil => exact .inr ⟨rfl, ok, q⟩
  | cons y ys => exact .inl ⟨by simp, q⟩
end Kx

set_option maxHeartbeats 4000000
namespace Kx
open PySem L2
/-! own errors with fields -/
section
variable {P : Program} {w : World} {K : PySem.W.Frag} {mg : Str → Option Value} {base : Heap}
end
section
variable {P : Program} {w : World} {K : PySem.W.Frag} {mg : Str → Option Value} {base : Heap}
theorem scBadMap : FnScope ["self", "what"] ["self", "what"] (defScope sBadMap_init) := ⟨rfl, rfl, rfl, by decide +kernel, rfl, by decide +kernel, by decide +kernel⟩
theorem ok_BadMap {f C : Addr} {fd : FuncData} (F : Fun K "__init__" "BadMap.__init__" sBadMap_init f fd) : FnOk P w K mg base CX0 1 f fd ["self", "what"] (spInit1 K C "what") := by
  refine F.ok scBadMap (fun vs H Q E h => ?_) (fun cdv A outer s H vs Q E hr h => ?_)
  · obtain ⟨a, y, rfl, _⟩ := h
    rfl
  · obtain ⟨a, y, rfl, T, n1, ha, k⟩ := h
    refine ⟨_, pss_one (ps_ost (pv 0) (pv 1)), ?_⟩
    refine ⟨_, rfl, _, rfl, a, C, rfl, T, n1, .inl ⟨ha, fun dx hdx ne => ?_⟩⟩
    refine k dx _ hdx ne upd_same (by rw [upd_ne ne, upd_same]) fun b o e nb => ?_
    rw [upd_ne nb, upd_ne (ne_of_none e hdx)]
    exact e
theorem scBadStand : FnScope ["self", "what"] ["self", "what"] (defScope sBadStand_init) := ⟨rfl, rfl, rfl, by decide +kernel, rfl, by decide +kernel, by decide +kernel⟩
theorem ok_BadStand {f C : Addr} {fd : FuncData} (F : Fun K "__init__" "BadStand.__init__" sBadStand_init f fd) : FnOk P w K mg base CX0 1 f fd ["self", "what"] (spInit1 K C "what") := by
  refine F.ok scBadStand (fun vs H Q E h => ?_) (fun cdv A outer s H vs Q E hr h => ?_)
  · obtain ⟨a, y, rfl, _⟩ := h
    rfl
  · obtain ⟨a, y, rfl, T, n1, ha, k⟩ := h
    refine ⟨_, pss_one (ps_ost (pv 0) (pv 1)), ?_⟩
    refine ⟨_, rfl, _, rfl, a, C, rfl, T, n1, .inl ⟨ha, fun dx hdx ne => ?_⟩⟩
    refine k dx _ hdx ne upd_same (by rw [upd_ne ne, upd_same]) fun b o e nb => ?_
    rw [upd_ne nb, upd_ne (ne_of_none e hdx)]
    exact e
end
end Kx



set_option maxHeartbeats 4000000
namespace Kx
open PySem L2
/-! stands: what they are made of, in plain words -/
def oV : Option Str → V
  | none => .non
  | some z => .str z
theorem Kd.sq {K : PySem.W.Frag} {H : Hp} {y : V} {n : String} (h : Kd H y n) : SeqQ K H y (seqV n) := ⟨n, h.kits, rfl, fun H' s => (h.keep s).ty⟩
theorem IsSeq.sqQ {K : PySem.W.Frag} {H : Hp} {b : Addr} {xs : List V} (h : IsSeq K H b xs) : SeqQ K H (.ref b) true := h.ty
theorem isSeq_of {K : PySem.W.Frag} {H : Hp} {b : Addr} {xs : List V} (h : H b = some (.lst xs) ∨ H b = some (.tup xs)) : IsSeq K H b xs := h.elim .lst .tup
/-- what is told as seats -/
inductive SeatsIs (K : PySem.W.Frag) (H : Hp) : V → Option (List V) → Prop where
  | seq {b : Addr} {xs : List V} (h : H b = some (.lst xs) ∨ H b = some (.tup xs)) (t : ∀ x ∈ xs, ∃ n, Thing H x n) (l : xs.length ≤ 2000) : SeatsIs K H (.ref b) (some xs)
  | oth {y : V} {n : String} (h : Kd H y n) (l : seqV n = false) : SeatsIs K H y none
theorem SeatsIs.keep {K : PySem.W.Frag} {H H' : Hp} {y : V} {r : Option (List V)} (h : SeatsIs K H y r) (s : Same H H') : SeatsIs K H' y r := by
  cases h with
  | seq h t l => exact .seq (h.imp (s _ _) (s _ _)) (fun x m => (t x m).imp fun n q => q.keep s) l
  | oth h l => exact .oth (h.keep s) l
theorem SeatsIs.sq {K : PySem.W.Frag} {H : Hp} {y : V} {r : Option (List V)} (h : SeatsIs K H y r) : SeqQ K H y r.isSome := by
  cases h with
  | seq h t l => exact (isSeq_of h).sqQ
  | oth h l => have q := h.sq (K := K); rw [l] at q; exact q
/-- what is told as clocks -/
inductive ClksIs (K : PySem.W.Frag) (H : Hp) : V → Option (List (Option (V × V))) → Prop where
  | seq {b : Addr} {xs : List V} {rs : List (Option (V × V))} (h : IsSeq K H b xs) (t : Paired (RowIs H) xs rs) (l : xs.length ≤ 2000) : ClksIs K H (.ref b) (some rs)
  | oth {y : V} {n : String} (h : Kd H y n) (l : seqV n = false) : ClksIs K H y none
theorem ClksIs.keep {K : PySem.W.Frag} {H H' : Hp} {y : V} {r : Option (List (Option (V × V)))} (h : ClksIs K H y r) (s : Same H H') : ClksIs K H' y r := by
  cases h with
  | seq h t l => exact .seq (h.keep s) (pr_imp t fun _ _ q => q.keep s) l
  | oth h l => exact .oth (h.keep s) l
theorem ClksIs.sq {K : PySem.W.Frag} {H : Hp} {y : V} {r : Option (List (Option (V × V)))} (h : ClksIs K H y r) : SeqQ K H y r.isSome := by
  cases h with
  | seq h t l => exact h.sqQ
  | oth h l => have q := h.sq (K := K); rw [l] at q; exact q
def isB : V → Bool
  | .bl _ => true
  | _ => false
/-- the word for a clock -/
def clockWord : Option (V × V) → Option Str
  | none => some "clock"
  | some (a, r) => if wholeV a 0 40 then (if isB r then none else some "running") else some "number"
def badS : V → Bool
  | .non => false
  | x => !labV x
/-- the first word that applies to clocks -/
def scanC : List (Option (V × V)) → Option Str
  | [] => none
  | r :: rs => match clockWord r with
    | some w => some w
    | none => scanC rs
def clocksDue : Option (List (Option (V × V))) → Option Str
  | none => some "clocks"
  | some rs => if rs.length ≤ 2 then scanC rs else some "clocks"
def seatsDue : Option (List V) → Option Str
  | none => some "seats"
  | some xs => if 1 ≤ xs.length ∧ xs.length ≤ 3 then (if xs.any badS then some "person" else none) else some "seats"
def restDue (so : Option (List V)) (co : Option (List (Option (V × V)))) : Option Str := match seatsDue so with
  | some w => some w
  | none => clocksDue co
theorem restDue_some {so : Option (List V)} {co : Option (List (Option (V × V)))} {w : Str} (h : seatsDue so = some w) : restDue so co = some w := by
  unfold restDue
  rw [h]
theorem restDue_none {so : Option (List V)} {co : Option (List (Option (V × V)))} (h : seatsDue so = none) : restDue so co = clocksDue co := by
  unfold restDue
  rw [h]
/-- the first word that applies to what a stand is to be made of -/
def standDue (room : V) (so : Option (List V)) (co : Option (List (Option (V × V)))) : Option Str :=
  if labV room then restDue so co else some "room"
/-- good parts -/
def GoodS (r : Str) (ss : List (Option Str)) (cs : List (Int × Bool)) : Prop := isLab r = true ∧ 1 ≤ ss.length ∧ ss.length ≤ 3 ∧ (∀ z, some z ∈ ss → isLab z = true) ∧ cs.length ≤ 2 ∧ ∀ c ∈ cs, 0 ≤ c.1 ∧ c.1 ≤ 40
def cR (cs : List (Int × Bool)) : List (Option (V × V)) := cs.map fun c => some (.int c.1, .bl c.2)
theorem badS_none : ∀ {xs : List V}, xs.any badS = false → ∃ ss : List (Option Str), xs = ss.map oV ∧ ∀ z, some z ∈ ss → isLab z = true
  | [], _ => ⟨[], rfl, fun z m => nomatch m⟩
  | x :: xs, h => by
    rw [List.any_cons, Bool.or_eq_false_iff] at h
    obtain ⟨ss, e, g⟩ := badS_none h.2
    by_cases n : x = .non
    · subst n
      exact ⟨none :: ss, by rw [e]; rfl, fun z m => by cases m with | tail _ m => exact g z m⟩
    · have l : labV x = true := by
        cases x with
        | non => exact absurd rfl n
        | _ => first | (have q := h.1; simp [badS] at q; exact q) | (have q := h.1; simp [badS, labV] at q)
      obtain ⟨z, rfl, hz⟩ := lab_str l
      refine ⟨some z :: ss, by rw [e]; rfl, fun y m => ?_⟩
      cases m with
      | head => exact hz
      | tail _ m => exact g y m
theorem clockWord_none {r : Option (V × V)} (h : clockWord r = none) : ∃ c : Int × Bool, r = some (.int c.1, .bl c.2) ∧ 0 ≤ c.1 ∧ c.1 ≤ 40 := by
  cases r with
  | none => cases h
  | some q =>
    obtain ⟨a, b⟩ := q
    have h : (if wholeV a 0 40 = true then (if isB b = true then none else some (Str.ofString "running")) else some (Str.ofString "number")) = none := h
    by_cases h1 : wholeV a 0 40 = true
    · rw [if_pos h1] at h
      by_cases h2 : isB b = true
      · cases a with
        | int i =>
          cases b with
          | bl b =>
            have h1 : (decide (0 ≤ i) && decide (i ≤ 40)) = true := h1
            rw [Bool.and_eq_true, decide_eq_true_eq, decide_eq_true_eq] at h1
            exact ⟨(i, b), rfl, h1⟩
          | _ => cases h2
        | _ => cases h1
      · rw [if_neg h2] at h; cases h
    · rw [if_neg h1] at h; cases h
theorem scanC_none : ∀ {rs : List (Option (V × V))}, scanC rs = none → ∃ cs : List (Int × Bool), rs = cR cs ∧ ∀ c ∈ cs, 0 ≤ c.1 ∧ c.1 ≤ 40
  | [], _ => ⟨[], rfl, fun c m => nomatch m⟩
  | r :: rs, h => by
    cases e : clockWord r with
    | some w =>
      have h : (match clockWord r with | some w => some w | none => scanC rs) = none := h
      rw [e] at h
      cases h
    | none =>
      have h2 : scanC rs = none := by
        have q : (match clockWord r with | some w => some w | none => scanC rs) = none := h
        rw [e] at q
        exact q
      obtain ⟨c, rfl, g⟩ := clockWord_none e
      obtain ⟨cs, e2, gs⟩ := scanC_none h2
      refine ⟨c :: cs, by rw [e2]; rfl, fun d m => ?_⟩
      cases m with
      | head => exact g
      | tail _ m => exact gs d m
theorem seatsDue_none {so : Option (List V)} (h : seatsDue so = none) : ∃ ss : List (Option Str), so = some (ss.map oV) ∧ 1 ≤ ss.length ∧ ss.length ≤ 3 ∧ ∀ z, some z ∈ ss → isLab z = true := by
  cases so with
  | none => cases h
  | some xs =>
    have h : (if 1 ≤ xs.length ∧ xs.length ≤ 3 then (if xs.any badS = true then some (Str.ofString "person") else none) else some (Str.ofString "seats")) = none := h
    by_cases h1 : 1 ≤ xs.length ∧ xs.length ≤ 3
    · rw [if_pos h1] at h
      cases e : xs.any badS with
      | true => rw [e, if_pos rfl] at h; cases h
      | false =>
        obtain ⟨ss, rfl, g⟩ := badS_none e
        rw [List.length_map] at h1
        exact ⟨ss, rfl, h1.1, h1.2, g⟩
    · rw [if_neg h1] at h; cases h
theorem clocksDue_none {co : Option (List (Option (V × V)))} (h : clocksDue co = none) : ∃ cs : List (Int × Bool), co = some (cR cs) ∧ cs.length ≤ 2 ∧ ∀ c ∈ cs, 0 ≤ c.1 ∧ c.1 ≤ 40 := by
  cases co with
  | none => cases h
  | some rs =>
    have h : (if rs.length ≤ 2 then scanC rs else some (Str.ofString "clocks")) = none := h
    by_cases h1 : rs.length ≤ 2
    · rw [if_pos h1] at h
      obtain ⟨cs, rfl, g⟩ := scanC_none h
      exact ⟨cs, rfl, by simpa [cR] using h1, g⟩
    · rw [if_neg h1] at h; cases h
/-- nothing to refuse: the parts are good -/
theorem standDue_none {room : V} {so : Option (List V)} {co : Option (List (Option (V × V)))} (h : standDue room so co = none) : ∃ r ss cs, room = .str r ∧ so = some (ss.map oV) ∧ co = some (cR cs) ∧ GoodS r ss cs := by
  unfold standDue at h
  cases e : labV room with
  | false => rw [e] at h; cases h
  | true =>
    rw [e, if_pos rfl] at h
    obtain ⟨r, rfl, hr⟩ := lab_str e
    cases e2 : seatsDue so with
    | some w => rw [restDue_some e2] at h; cases h
    | none =>
      rw [restDue_none e2] at h
      obtain ⟨ss, rfl, g1, g2, g3⟩ := seatsDue_none e2
      obtain ⟨cs, rfl, g4, g5⟩ := clocksDue_none h
      exact ⟨r, ss, cs, rfl, rfl, rfl, hr, g1, g2, g3, g4, g5⟩
structure Sm7 (mg : Str → Option Value) : Prop where
  seats : ∃ t, mg "MOST_SEATS" = some (.int 3 t)
  clocks : ∃ t, mg "MOST_CLOCKS" = some (.int 2 t)
  number : ∃ t, mg "GREATEST_NUMBER" = some (.int 40 t)
def spClockFault : Sp := fun vs H Q _ => ∃ (y : V) (r : Option (V × V)), vs = [y] ∧ RowIs H y r ∧ ∀ H', Same H H' → Q (wordV (clockWord r)) H'
section
variable {P : Program} {w : World} {K : PySem.W.Frag} {mg : Str → Option Value} {base : Heap}
theorem scClockFault : FnScope ["clock", "number", "running"] ["clock"] (defScope sClockFault) := ⟨rfl, rfl, rfl, by decide +kernel, rfl, by decide +kernel, by decide +kernel⟩
theorem ok_clockfault {f : Addr} {fd : FuncData} (F : Fun K "_clock_fault" "_clock_fault" sClockFault f fd) (m : mg "_clock_fault" = some (.ref f)) (T : Bl mg) (B : Bm mg) (M : Sm7 mg) (Sq : HasF P w K mg base "is_sequence" 1 ["thing"] spSeq) (W : HasF P w K mg base "is_whole" 1 ["thing", "low", "high"] spWhole) : HasF P w K mg base "_clock_fault" 2 ["clock"] spClockFault := by
  refine ⟨f, fd, ?_, m, F.kp, F.binds fun _ _ _ _ _ _ us hl => match us, hl with | [_], _ => rfl⟩
  obtain ⟨f1, fd1, Sq⟩ := Sq; obtain ⟨f3, fd3, W⟩ := W
  obtain ⟨t2, mA⟩ := M.number
  refine F.ok scClockFault (fun vs H Q E h => ?_) (fun cdv A outer s H vs Q E hr h => ?_)
  · obtain ⟨a, b, rfl, _⟩ := h
    rfl
  · obtain ⟨y, r, rfl, hy, k⟩ := h
    refine ⟨_, (C8.pss_cut (ps_if (PW.pt (pw_or (pt_not (pt_val (pe_call Sq.G hr (by rfl) Sq.m Sq.kp Sq.b .nil pass0 (pa_cons (pv 0) pa_nil)))) (pw_or1 (pt_cmpR op_ne (pe_callB call_len_seq (by rfl) T.len PySem.boot_len (pa_cons (pv 0) pa_nil)) pe_int (nomark _))))) (pss_one (ps_ret pe_str)) pss_nil)
    (C8.pss_cut (ps_asg (pv 0) (pg_or (pg_lst rfl (pgs_cons (pg_name (i := 1) scClockFault.nd rfl (.inl rfl)) (pgs_cons (pg_name (i := 2) scClockFault.nd rfl (.inl rfl)) pgs_nil))) (pg_tup rfl (pgs_cons (pg_name (i := 1) scClockFault.nd rfl (.inl rfl)) (pgs_cons (pg_name (i := 2) scClockFault.nd rfl (.inl rfl)) pgs_nil)))))
    (pss_cons (ps_if (pt_not (pt_val (pe_call W.G hr (by rfl) W.m W.kp W.b .nil pass0 (pa_cons (pv 1) (pa_cons pe_int (pa_cons (pe_glob (v := .int 40) rfl mA ⟨_, rfl⟩) pa_nil)))))) (pss_one (ps_ret pe_str)) pss_nil)
    (pss_cons (ps_if (pt_not (pt_val (pe_callB call_isi (by rfl) B.isinstance (by decide +kernel) (pa_cons (pv 2) (pa_cons (pe_bltn (v := .ty "bool") (by rfl) B.bool (by decide +kernel) rfl) pa_nil))))) (pss_one (ps_ret pe_str)) pss_nil)
    (pss_one (ps_ret pe_non)))))), ?_⟩
    refine ⟨fun σ H1 => ∃ (b : Addr) (n a : V) (t u : String), y = .ref b ∧ r = some (n, a) ∧ σ = [some y, none, none] ∧ Same H H1 ∧ (H1 b = some (.lst [n, a]) ∨ H1 b = some (.tup [n, a])) ∧ Thing H1 n t ∧ Thing H1 a u, ?_, ?_⟩
    · obtain ⟨n, kd, kn⟩ := hy.kd
      refine ⟨_, rfl, y, n, rfl, kd, fun H1 s1 => ⟨_, rfl, ?_⟩⟩
      have hy1 := hy.keep s1
      have bad : r = none → ∀ H', Same H H' → Q (.str "clock") H' := fun e H' s => by
        subst e
        exact k H' s
      cases e1 : seqV n with
      | false => exact iteT (bad (kn e1) _ s1)
      | true =>
        refine iteF ?_
        cases hy1 with
        | lst h hn ha => exact ⟨_, rfl, _, _, rfl, .inl (SqL.of h), rfl, _, rfl, iteF ⟨_, _, _, _, _, rfl, rfl, rfl, s1, .inl h, hn, ha⟩⟩
        | tup h hn ha => exact ⟨_, rfl, _, _, rfl, .inr (SqT.of h), rfl, _, rfl, iteF ⟨_, _, _, _, _, rfl, rfl, rfl, s1, .inr h, hn, ha⟩⟩
        | lstN h l =>
          refine ⟨_, rfl, _, _, rfl, .inl (SqL.of h), rfl, _, rfl, ?_⟩
          rw [decide_eq_false (fun e => l (by have := V.int.inj e; omega))]
          exact iteT (bad rfl _ s1)
        | tupN h l =>
          refine ⟨_, rfl, _, _, rfl, .inr (SqT.of h), rfl, _, rfl, ?_⟩
          rw [decide_eq_false (fun e => l (by have := V.int.inj e; omega))]
          exact iteT (bad rfl _ s1)
        | oth h l =>
          rw [← (kd.keep s1).uniq h, e1] at l
          cases l
    rintro σ H1 ⟨b, n, a, t, u, rfl, rfl, rfl, s1, hb, hn, ha⟩
    refine ⟨fun σ H' => σ = [some (.ref b), some n, some a] ∧ H' = H1, ?_, ?_⟩
    · refine ⟨_, rfl, ?_⟩
      rcases hb with hb | hb
      · exact .inl ⟨b, _, rfl, SqL.of hb, rfl, _, _, rfl, _, _, rfl, rfl, rfl, rfl⟩
      · exact .inr ⟨b, _, rfl, SqT.of hb, rfl, _, _, rfl, _, _, rfl, rfl, rfl, rfl⟩
    rintro σ H2 ⟨rfl, rfl⟩
    have word : ∀ w' : Option Str, (if wholeV n 0 40 = true then (if isB a = true then none else some (Str.ofString "running")) else some (Str.ofString "number")) = w' → Q (wordV w') H2 := fun w' e => by
      have q := k H2 s1
      have e3 : clockWord (some (n, a)) = w' := e
      rw [e3] at q
      exact q
    refine ⟨_, rfl, n, t, 0, 40, rfl, hn.kd, _, rfl, ?_⟩
    cases e5 : wholeV n 0 40 with
    | false => exact iteT (word (some "number") (by rw [e5]; rfl))
    | true =>
      refine iteF ⟨_, rfl, a, _, _, _, _, rfl, .ty _, ha.kd.ty, kit_ty (kit_bool ha.kd.kits), _, rfl, ?_⟩
      have e6 : (u == "bool") = isB a := by
        cases ha.kd <;> rfl
      rw [e6]
      cases e7 : isB a with
      | false => exact iteT (word (some "running") (by rw [e5, e7]; rfl))
      | true => exact iteF (word none (by rw [e5, e7]; rfl))
end
end Kx


set_option maxHeartbeats 4000000
namespace Kx
open PySem L2
/-- what is known of the class Stand -/
structure SC (K : PySem.W.Frag) (C : Addr) : Prop where
  cl : Cls K C
  nR : NoAttr K C "room"
  nS : NoAttr K C "seats"
  nC : NoAttr K C "clocks"
  ca : PySem.W.findIn K (.ref C) "__class__" = some (some (.builtin "object.__class__"))
  cg : PySem.W.specialIn K (.builtin "object.__class__") "__get__" = some (some (.builtin "getset_descriptor.__get__"))
  ct : PySem.W.takesIn K (.builtin "object.__class__") = some true
  cm : PySem.W.mroIn K C (.type "object") = some true
theorem s_rs : ¬ (Str.ofString "room") = Str.ofString "seats" := by decide +kernel
theorem s_rc : ¬ (Str.ofString "room") = Str.ofString "clocks" := by decide +kernel
theorem s_sc : ¬ (Str.ofString "seats") = Str.ofString "clocks" := by decide +kernel
def sFs (r : Str) (sa ca : Addr) : List (Str × V) := putF "clocks" (.ref ca) (putF "seats" (.ref sa) (putF "room" (.str r) []))
theorem sFs_r (r : Str) (sa ca : Addr) : (sFs r sa ca).lookup ("room" : Str) = some (.str r) := by
  unfold sFs
  rw [lookup_putF, if_neg s_rc, lookup_putF, if_neg s_rs, lookup_putF, if_pos rfl]
theorem sFs_s (r : Str) (sa ca : Addr) : (sFs r sa ca).lookup ("seats" : Str) = some (.ref sa) := by
  unfold sFs
  rw [lookup_putF, if_neg s_sc, lookup_putF, if_pos rfl]
theorem sFs_c (r : Str) (sa ca : Addr) : (sFs r sa ca).lookup ("clocks" : Str) = some (.ref ca) := by
  unfold sFs
  rw [lookup_putF, if_pos rfl]
theorem sFs_no (r : Str) (sa ca : Addr) {m : Str} (h1 : ¬ m = Str.ofString "room") (h2 : ¬ m = Str.ofString "seats") (h3 : ¬ m = Str.ofString "clocks") : (sFs r sa ca).lookup m = none := by
  unfold sFs
  rw [lookup_putF, if_neg h3, lookup_putF, if_neg h2, lookup_putF, if_neg h1]
  rfl
def ClkT (H : Hp) (x : V) (c : Int × Bool) : Prop := ∃ a, x = .ref a ∧ H a = some (.tup [.int c.1, .bl c.2])
theorem ClkT.keep {H H' : Hp} {x : V} {c : Int × Bool} (h : ClkT H x c) (s : Same H H') : ClkT H' x c := by
  obtain ⟨a, e, h⟩ := h
  exact ⟨a, e, s _ _ h⟩
/-- the stand at p -/
structure StandAt (C : Addr) (H : Hp) (p : Addr) (r : Str) (ss : List (Option Str)) (cs : List (Int × Bool)) : Prop where
  ob : ∃ dx sa ca xs, H p = some (.ins C dx (sFs r sa ca)) ∧ H sa = some (.tup (ss.map oV)) ∧ H ca = some (.tup xs) ∧ Paired (ClkT H) xs cs
  good : GoodS r ss cs
theorem StandAt.keep {C : Addr} {H H' : Hp} {p : Addr} {r : Str} {ss : List (Option Str)} {cs : List (Int × Bool)} (h : StandAt C H p r ss cs) (s : Same H H') : StandAt C H' p r ss cs := by
  obtain ⟨⟨dx, sa, ca, xs, h1, h2, h3, h4⟩, g⟩ := h
  exact ⟨⟨dx, sa, ca, xs, s _ _ h1, s _ _ h2, s _ _ h3, pr_imp h4 fun _ _ q => q.keep s⟩, g⟩
def whatF (w : Str) : List (Str × V) := [("what", .str w)]
def spStand (K : PySem.W.Frag) (C CB : Addr) : Sp := fun vs H Q E => ∃ (p dx : Addr) (room y z : V) (n : String) (so : Option (List V)) (co : Option (List (Option (V × V)))), vs = [.ref p, room, y, z] ∧ H p = some (.ins C dx []) ∧ Thing H room n ∧ SeatsIs K H y so ∧ ClksIs K H z co ∧
  match standDue room so co with
  | some w => ∀ d H', H d = none → Keep H H' p → H' d = some (.xd (whatF w)) → E (.ref CB) (some d) H'
  | none => ∀ r ss cs H', room = .str r → so = some (ss.map oV) → co = some (cR cs) → GoodS r ss cs → Keep H H' p → StandAt C H' p r ss cs → Q .non H'
section
variable {P : Program} {w : World} {K : PySem.W.Frag} {mg : Str → Option Value} {base : Heap}
abbrev nStand : List Str := ["self", "room", "seats", "clocks", "person", "clock", "word"]
theorem scStand : FnScope nStand ["self", "room", "seats", "clocks"] (defScope sStand_init) := ⟨rfl, rfl, rfl, by decide +kernel, rfl, by decide +kernel, by decide +kernel⟩
set_option maxHeartbeats 16000000 in
theorem ok_stand {f C CB fB : Addr} {fd fdB : FuncData} {dv : V} (F : FunD K "__init__" "Stand.__init__" (defArgs sStand_init) (defBody sStand_init) (defScope sStand_init) [dv] [] f fd) (T : Bl mg) (B : Bm mg) (M : Sm7 mg) (SX : SC K C) (Sq : HasF P w K mg base "is_sequence" 1 ["thing"] (spSeqK K)) (Lb : HasF P w K mg base "is_label" 1 ["thing"] spLabel) (CF : HasF P w K mg base "_clock_fault" 2 ["clock"] spClockFault)
    (EB : ErC P w K mg base "BadStand" ["self", "what"] CB fB fdB (spInit1 K CB "what")) (n1 : PySem.W.findIn K (.ref CB) "what" = some none) :
    FnOk P w K mg base (L2.CX P w) 4 f fd ["self", "room", "seats", "clocks"] (spStand K C CB) := by
  obtain ⟨f1, fd1, Sq⟩ := Sq; obtain ⟨f2, fd2, Lb⟩ := Lb; obtain ⟨f3, fd3, CF⟩ := CF
  obtain ⟨t1, mS⟩ := M.seats; obtain ⟨t2, mC⟩ := M.clocks
  refine F.ok scStand (fun vs H Q E h => ?_) (fun cdv A outer s H vs Q E hr h => ?_)
  · obtain ⟨a, b, c, d, e, g, i, j, rfl, _⟩ := h
    rfl
  · obtain ⟨p, dx, room, y, z, n, so, co, rfl, hp, tr, hs, hc, k⟩ := h
    have hr1 : Room 1 _ := hr.mono (by decide)
    have hr2 : Room 2 _ := hr.mono (by decide)
    refine ⟨_, (C8.pss_cut (ps_if (pt_not (pt_val (pe_call Lb.G hr1 (by rfl) Lb.m Lb.kp Lb.b .nil pass0 (pa_cons (pv 1) pa_nil)))) (pss_one (ps_raise rfl (takes_of rfl rfl rfl rfl) (pmk_oex EB.T EB.iC EB.tI EB.G hr2 EB.b .nil pass0 (by rfl) EB.gC (pa_cons pe_str pa_nil)))) pss_nil)
    (C8.pss_cut (ps_if (PW.pt (pw_or (pt_not (pt_val (pe_call Sq.G hr1 (by rfl) Sq.m Sq.kp Sq.b .nil pass0 (pa_cons (pv 2) pa_nil)))) (pw_or1 (pt_not (pt_chain op_le op_le pe_int (pe_callB call_len_seq (by rfl) T.len PySem.boot_len (pa_cons (pv 2) pa_nil)) (pe_glob (v := .int 3) rfl mS ⟨_, rfl⟩)))))) (pss_one (ps_raise rfl (takes_of rfl rfl rfl rfl) (pmk_oex EB.T EB.iC EB.tI EB.G hr2 EB.b .nil pass0 (by rfl) EB.gC (pa_cons pe_str pa_nil)))) pss_nil)
    (C8.pss_cut (ps_for (passes_of rfl) rfl (pi_seq (pv 2)) (pg_name (i := 4) scStand.nd rfl (Or.inl rfl))
        (pss_one (ps_if (PW.pt (pw_and (pt_cmpR op_notN (pv 4) pe_non (nomark _)) (pw_and1 (pt_not (pt_val (pe_call Lb.G hr1 (by rfl) Lb.m Lb.kp Lb.b .nil pass0 (pa_cons (pv 4) pa_nil))))))) (pss_one (ps_raise rfl (takes_of rfl rfl rfl rfl) (pmk_oex EB.T EB.iC EB.tI EB.G hr2 EB.b .nil pass0 (by rfl) EB.gC (pa_cons pe_str pa_nil)))) pss_nil)))
    (C8.pss_cut (ps_if (PW.pt (pw_or (pt_not (pt_val (pe_call Sq.G hr1 (by rfl) Sq.m Sq.kp Sq.b .nil pass0 (pa_cons (pv 3) pa_nil)))) (pw_or1 (pt_cmpR op_gt (pe_callB call_len_seq (by rfl) T.len PySem.boot_len (pa_cons (pv 3) pa_nil)) (pe_glob (v := .int 2) rfl mC ⟨_, rfl⟩) (nomark _))))) (pss_one (ps_raise rfl (takes_of rfl rfl rfl rfl) (pmk_oex EB.T EB.iC EB.tI EB.G hr2 EB.b .nil pass0 (by rfl) EB.gC (pa_cons pe_str pa_nil)))) pss_nil)
    (C8.pss_cut (ps_for (passes_of rfl) rfl (pi_seq (pv 3)) (pg_name (i := 5) scStand.nd rfl (Or.inl rfl))
        (pss_cons (ps_set (i := 6) scStand.nd rfl (Or.inl rfl) (pe_call CF.G hr2 (by rfl) CF.m CF.kp CF.b .nil pass0 (pa_cons (pv 5) pa_nil)))
    (pss_one (ps_if (pt_cmpR op_notN (pv 6) pe_non (nomark _)) (pss_one (ps_raise rfl (takes_of rfl rfl rfl rfl) (pmk_oex EB.T EB.iC EB.tI EB.G hr2 EB.b .nil pass0 (by rfl) EB.gC (pa_cons (pv 6) pa_nil)))) pss_nil))))
    (pss_cons (ps_fld (pv 0) (pv 1) rfl)
    (C8.pss_cut (ps_fld (pv 0) (pe_callTy (call_tupK (K := K) rfl) (by rfl) B.tuple (by decide +kernel) (pa_cons (pv 2) pa_nil)) rfl)
    (pss_one (ps_fld (pv 0) (pe_callTy call_tuple_of (by rfl) B.tuple (by decide +kernel) (pa_cons (pe_lc (own := [("clock", 5)]) (g := gName 5) (tt := tYes) (by rfl) scStand.nd (pi_seq (pv 3)) (blkOk_by (own := [("clock", 5)]) (N := nStand) (sc := defScope sStand_init) (by decide +kernel))
          (fun _ _ _ _ _ => pg_name (i := 5) scStand.nd rfl (Or.inl rfl)) (fun _ _ _ _ _ => pts_nil) (fun _ _ _ _ _ => (pe_callTy (call_tupK (K := K) rfl) (by rfl) B.tuple (by decide +kernel) (pa_cons (pv 5) pa_nil)))) pa_nil)) rfl))))))))), ?_⟩
    have bad : ∀ w', standDue room so co = some w' → ∀ d H', H d = none → Same H H' → H' d = some (.xd (whatF w')) → E (.ref CB) (some d) H' := fun w' e d H' hd s e2 => by
      rw [e] at k
      exact k d H' hd (Same.keep s) e2
    -- the room
    refine ⟨fun σ H1 => labV room = true ∧ σ = [some (.ref p), some room, some y, some z, none, none, none] ∧ H1 = H, ?_, ?_⟩
    · refine ⟨_, rfl, room, n, rfl, tr.kd, (fun z e => Nat.le_of_lt (small1000 (by have := (tr.fine z e).2; omega))), _, rfl, ?_⟩
      cases e1 : labV room with
      | false => exact iteT (fin1 EB.T n1 fun d H2 hd s2 e2 => bad _ (by unfold standDue; rw [e1]; rfl) d H2 hd s2 e2)
      | true => exact iteF ⟨rfl, rfl, rfl⟩
    rintro σ H1 ⟨e1, rfl, rfl⟩
    have sd1 : standDue room so co = restDue so co := if_pos e1
    rw [sd1] at bad k
    -- the seats
    refine ⟨fun σ H1' => ∃ b xs, y = .ref b ∧ so = some xs ∧ 1 ≤ xs.length ∧ xs.length ≤ 3 ∧ (H1 b = some (.lst xs) ∨ H1 b = some (.tup xs)) ∧ (∀ x ∈ xs, ∃ n, Thing H1 x n) ∧ σ = [some (.ref p), some room, some (.ref b), some z, none, none, none] ∧ Same H1 H1', ?_, ?_⟩
    · refine ⟨_, rfl, y, _, rfl, hs.sq, fun H2 s2 => ⟨_, rfl, ?_⟩⟩
      cases hs with
      | oth h l => exact iteT (fin1 EB.T n1 fun d H3 hd s3 e3 => bad _ (restDue_some rfl) d H3 (s2.free hd) (s2.trans s3) e3)
      | seq h t l =>
        rename_i b xs
        refine iteF ?_
        have q := (isSeq_of (K := K) (h.imp (s2 _ _) (s2 _ _))).sq
        have no : ¬ (1 ≤ xs.length ∧ xs.length ≤ 3) → restDue (some xs) co = some (Str.ofString "seats") := fun e => restDue_some (if_neg e)
        refine ⟨_, rfl, _, _, rfl, q, _, _, rfl, rfl, _, rfl, ?_⟩
        refine ite2 (fun h1 => ?_) (fun h1 => ?_)
        · have h1 := of_decide_eq_true h1
          refine ⟨_, _, rfl, rfl, _, rfl, ?_⟩
          refine ite2 (fun h2 => ?_) (fun h2 => ?_)
          · have h2 : ¬ ((xs.length : Nat) : Int) ≤ 3 := fun e => by rw [decide_eq_true e] at h2; cases h2
            exact fin1 EB.T n1 fun d H3 hd s3 e3 => bad _ (no (by omega)) d H3 (s2.free hd) (s2.trans s3) e3
          · have h2 : ((xs.length : Nat) : Int) ≤ 3 := by
              by_cases q : ((xs.length : Nat) : Int) ≤ 3
              · exact q
              · rw [decide_eq_false q] at h2
                exact absurd rfl h2
            exact ⟨b, xs, rfl, rfl, by omega, by omega, h, t, rfl, s2⟩
        · have h1 : ¬ (1 : Int) ≤ ((xs.length : Nat) : Int) := fun e => h1 (decide_eq_true e)
          exact ⟨_, rfl, iteT (fin1 EB.T n1 fun d H3 hd s3 e3 => bad _ (no (by omega)) d H3 (s2.free hd) (s2.trans s3) e3)⟩
    rintro σ H2 ⟨b, xs, rfl, rfl, l1, l3, hb, ht, rfl, s2⟩
    have sd2 : seatsDue (some xs) = (if xs.any badS then some (Str.ofString "person") else none) := if_pos ⟨l1, l3⟩
    have qs : IsSeq K H1 b xs := isSeq_of hb
    -- the persons
    refine ⟨fun σ H3 => ∃ v, xs.any badS = false ∧ σ = [some (.ref p), some room, some (.ref b), some z, v, none, none] ∧ Same H1 H3, ?_, ?_⟩
    · refine ⟨_, rfl, b, rfl, for_sq qs (fun i σ H3 => ∃ v, σ = [some (.ref p), some room, some (.ref b), some z, v, none, none] ∧ Same H1 H3 ∧ (xs.take i).any badS = false) ⟨none, rfl, s2, rfl⟩ (fun i σ H3 ⟨_, _, q, _⟩ => q) ?_ ?_⟩
      · rintro i x σ H3 hi ⟨v, rfl, s3, al⟩
        obtain ⟨m, tx⟩ := ht x (List.mem_of_getElem? hi)
        have stepB : badS x = false → (xs.take (i + 1)).any badS = false := fun e => by
          rw [List.take_add_one, hi, List.any_append, al]
          simp [e]
        have isBad : badS x = true → xs.any badS = true := fun e => List.any_eq_true.mpr ⟨x, List.mem_of_getElem? hi, e⟩
        by_cases xn : x = .non
        · subst xn
          refine ⟨_, rfl, rfl, _, rfl, iteF ?_⟩
          exact ⟨_, rfl, s3, stepB rfl⟩
        · have nf : decide (x = .non) = false := decide_eq_false xn
          have eb : badS x = !labV x := by
            cases x with
            | non => exact absurd rfl xn
            | _ => rfl
          have tx3 := tx.keep s3
          refine ⟨_, rfl, rfl, _, rfl, ?_⟩
          rw [nf]
          refine iteT ⟨_, rfl, x, m, rfl, tx3.kd, (fun z e => Nat.le_of_lt (small1000 (by have := (tx.fine z e).2; omega))), _, rfl, ?_⟩
          cases e5 : labV x with
          | false =>
            refine iteT (fin1 EB.T n1 fun d H4 hd s4 e4 => bad _ (restDue_some ?_) d H4 (s3.free hd) (s3.trans s4) e4)
            rw [sd2, if_pos (isBad (by rw [eb, e5]; rfl))]
          | true => exact iteF ⟨_, rfl, s3, stepB (by rw [eb, e5]; rfl)⟩
      · rintro σ H3 ⟨v, rfl, s3, al⟩
        rw [List.take_length] at al
        exact ⟨v, al, rfl, s3⟩
    rintro σ H3 ⟨v4, al, rfl, s3⟩
    have sd3 : restDue (some xs) co = clocksDue co := restDue_none (by rw [sd2, al]; rfl)
    rw [sd3] at bad k
    have hc3 := hc.keep s3
    -- the clocks
    refine ⟨fun σ H4 => ∃ c ys rs, z = .ref c ∧ co = some rs ∧ rs.length ≤ 2 ∧ IsSeq K H1 c ys ∧ Paired (RowIs H1) ys rs ∧ σ = [some (.ref p), some room, some (.ref b), some (.ref c), v4, none, none] ∧ Same H1 H4, ?_, ?_⟩
    · refine ⟨_, rfl, z, _, rfl, hc3.sq, fun H4 s4 => ⟨_, rfl, ?_⟩⟩
      have s14 := s3.trans s4
      cases hc with
      | oth h l => exact iteT (fin1 EB.T n1 fun d H5 hd s5 e5 => bad _ rfl d H5 (s14.free hd) (s14.trans s5) e5)
      | seq h t l =>
        rename_i c ys rs
        refine iteF ?_
        have ln := Paired.length t
        refine ⟨_, rfl, _, _, rfl, (h.keep s14).sq, _, _, rfl, rfl, _, rfl, ?_⟩
        refine ite2 (fun h1 => ?_) (fun h1 => ?_)
        · have h1 := of_decide_eq_true h1
          exact fin1 EB.T n1 fun d H5 hd s5 e5 => bad _ (if_neg (by omega)) d H5 (s14.free hd) (s14.trans s5) e5
        · have h1 : ¬ ((2 : Int) < ((ys.length : Nat) : Int)) := fun e => h1 (decide_eq_true e)
          exact ⟨c, ys, rs, rfl, rfl, by omega, h, t, rfl, s14⟩
    rintro σ H4 ⟨c, ys, rs, rfl, rfl, l2, hcq, hrs, rfl, s4⟩
    have sd4 : clocksDue (some rs) = scanC rs := if_pos l2
    rw [sd4] at bad k
    have ln := Paired.length hrs
    -- each clock
    refine ⟨fun σ H5 => ∃ v5 v6, scanC rs = none ∧ σ = [some (.ref p), some room, some (.ref b), some (.ref c), v4, v5, v6] ∧ Same H1 H5, ?_, ?_⟩
    · refine ⟨_, rfl, c, rfl, for_sq hcq (fun i σ H5 => ∃ v5 v6, σ = [some (.ref p), some room, some (.ref b), some (.ref c), v4, v5, v6] ∧ Same H1 H5 ∧ scanC rs = scanC (rs.drop i)) ⟨none, none, rfl, s4, rfl⟩ (fun i σ H5 ⟨_, _, _, q, _⟩ => q) ?_ ?_⟩
      · rintro i x σ H5 hi ⟨v5, v6, rfl, s5, sc⟩
        obtain ⟨r, hr', dx'⟩ := pr_get hrs hi
        have st : scanC (rs.drop i) = (match clockWord r with | some w => some w | none => scanC (rs.drop (i + 1))) := by
          rw [List.drop_eq_getElem_cons (List.getElem?_eq_some_iff.mp hr').1, (List.getElem?_eq_some_iff.mp hr').2]
          rfl
        rw [st] at sc
        refine ⟨_, rfl, x, r, rfl, dx'.keep s5, fun H6 s6 => ?_⟩
        have s16 := s5.trans s6
        cases e : clockWord r with
        | some w' =>
          rw [e] at sc
          exact ⟨_, rfl, rfl, _, rfl, iteT ⟨_, rfl, fin1 EB.T n1 fun d H7 hd s7 e7 => bad _ sc d H7 (s16.free hd) (s16.trans s7) e7⟩⟩
        | none =>
          rw [e] at sc
          exact ⟨_, rfl, rfl, _, rfl, iteF ⟨_, _, rfl, s16, sc⟩⟩
      · rintro σ H5 ⟨v5, v6, rfl, s5, sc⟩
        refine ⟨v5, v6, ?_, rfl, s5⟩
        rw [sc, ln, List.drop_length]
        rfl
    rintro σ H5 ⟨v5, v6, sc, rfl, s5⟩
    rw [sc] at k
    obtain ⟨r, ss, cs, rfl, er, ec, good⟩ := standDue_none (room := room) (so := some xs) (co := some rs) (by rw [sd1, sd3, sd4, sc])
    obtain rfl : xs = ss.map oV := Option.some.inj er
    obtain rfl : rs = cR cs := Option.some.inj ec
    have hp5 := s5 _ _ hp
    refine ⟨_, rfl, _, rfl, p, C, dx, [], rfl, hp5, SX.cl, SX.nR, (by show 0 < 1000; decide), ?_⟩
    obtain ⟨Ha, eHa⟩ : ∃ Ha, upd H5 p (.ins C dx (putF "room" (.str r) [])) = Ha := ⟨_, rfl⟩
    have hpa : Ha p = some (.ins C dx (putF "room" (.str r) [])) := by rw [← eHa]; exact upd_same
    have ka : Keep H1 Ha p := fun u o e ne => by rw [← eHa, upd_ne ne]; exact s5 _ _ e
    rw [show upd H5 p (.ins C dx (putF "room" (.str r) [])) = Ha from eHa]
    refine ⟨fun σ H6 => ∃ sa, σ = [some (.ref p), some (.str r), some (.ref b), some (.ref c), v4, v5, v6] ∧ H6 p = some (.ins C dx (putF "seats" (.ref sa) (putF "room" (.str r) []))) ∧ H6 sa = some (.tup (ss.map oV)) ∧ Keep H1 H6 p, ?_, ?_⟩
    · have bp : b ≠ p := fun e => by rcases hb with hb | hb <;> (rw [e, hp] at hb; cases hb)
      rcases hb with hb | hb
      · refine ⟨_, rfl, b, _, rfl, .inl ⟨SqL.of (ka _ _ hb bp), fun l hl => ?_⟩⟩
        have lp : l ≠ p := (ne_of_none hpa hl).symm
        refine ⟨_, rfl, p, C, dx, _, rfl, by rw [upd_ne lp.symm]; exact hpa, SX.cl, SX.nS, (by show 1 < 1000; decide), l, rfl, upd_same, by rw [upd_ne lp]; exact upd_same, fun u o e ne => ?_⟩
        rw [upd_ne ne, upd_ne (ne_of_none (ka u o e ne) hl)]
        exact ka u o e ne
      · refine ⟨_, rfl, b, _, rfl, .inr ⟨SqT.of (ka _ _ hb bp), ?_⟩⟩
        refine ⟨_, rfl, p, C, dx, _, rfl, hpa, SX.cl, SX.nS, (by show 1 < 1000; decide), b, rfl, upd_same, by rw [upd_ne bp]; exact ka _ _ hb bp, fun u o e ne => ?_⟩
        rw [upd_ne ne]
        exact ka u o e ne
    rintro σ H6 ⟨sa, rfl, hp6, hsa, k6⟩
    have s06 : Same (wo p H1) H6 := fun u o e => k6 u o (wo_same u o e) (fun z => by rw [z] at e; unfold wo at e; rw [if_pos rfl] at e; cases e)
    refine ⟨_, rfl, c, rfl, lc_pure (g := gName 5) (fun j y H' => ∀ d, cs[j]? = some d → ClkT H' y d) (fun j y H' H'' q s d e => (q d e).keep s) (hcq.off hp) s06 (by rw [ln]; omega) ?_ ?_ fun x σ H Q Q' q z => q _ _ z⟩
    · rintro D i x H7 k' hi hD s7 ⟨acc, hacc⟩ kk
      obtain ⟨r', hr', dx'⟩ := pr_get hrs hi
      obtain ⟨d, hd, rfl⟩ : ∃ d, cs[i]? = some d ∧ r' = some (V.int d.1, V.bl d.2) := by
        have hr' : (cs.map fun c => some (V.int c.1, V.bl c.2))[i]? = some r' := hr'
        rw [List.getElem?_map] at hr'
        cases e : cs[i]? with
        | none => rw [e] at hr'; cases hr'
        | some d => rw [e] at hr'; exact ⟨d, rfl, (Option.some.inj hr').symm⟩
      have only : ∀ {y : V} {H' : Hp}, ClkT H' y d → ∀ d', cs[i]? = some d' → ClkT H' y d' := fun q d' e => by rw [hd] at e; cases e; exact q
      cases dx' with
      | lst h hn ha =>
        rename_i b' _ _
        have h7 := s7 _ _ (k6 _ _ h fun e => by rw [e, hp] at h; cases h)
        refine ⟨rfl, _, rfl, b', _, rfl, .inl ⟨SqL.of h7, fun l hl => kk _ _ (sameUpd (Same.refl _) hl) (only ⟨l, rfl, wo_at upd_same fun e => ?_⟩)⟩⟩
        rw [e, hacc] at hl
        cases hl
      | tup h hn ha =>
        rename_i b' _ _
        have h7 := s7 _ _ (k6 _ _ h fun e => by rw [e, hp] at h; cases h)
        refine ⟨rfl, _, rfl, b', _, rfl, .inr ⟨SqT.of h7, kk _ _ (Same.refl _) (only ⟨b', rfl, wo_at h7 fun e => ?_⟩)⟩⟩
        rw [e, hacc] at h7
        cases h7
    · intro D ys' H7 hD s7 hd ly g
      have hp7 := s7 _ _ hp6
      have Dp : D ≠ p := fun e => by rw [e, hp7] at hd; cases hd
      refine ⟨D, ys', rfl, .inl ⟨SqL.of hd, fun l hl => ?_⟩⟩
      have lp : l ≠ p := (ne_of_none hp7 hl).symm
      refine ⟨_, rfl, p, C, dx, _, rfl, by rw [upd_ne lp.symm]; exact hp7, SX.cl, SX.nC, (by show 2 < 1000; decide), ?_⟩
      have fin : ∀ {u : Addr} {o : HO}, H7 u = some o → u ≠ p → upd (upd H7 l (.tup ys')) p (.ins C dx (sFs r sa l)) u = some o := fun {u o} e ne => by rw [upd_ne ne, upd_ne (ne_of_none e hl)]; exact e
      have nsp : sa ≠ p := fun e => by rw [e, hp6] at hsa; cases hsa
      refine k r ss cs _ rfl rfl rfl good (fun u o e ne => fin (s7 _ _ (k6 u o e ne)) ne) ⟨⟨dx, sa, l, ys', upd_same, fin (s7 _ _ hsa) nsp, by rw [upd_ne lp, upd_same], pr_of (by rw [ly, ln]; simp [cR]) fun i y d e1 e2 => ?_⟩, good⟩
      obtain ⟨a, e3, e4⟩ := (g i y e1 d e2).keep wo_same
      exact ⟨a, e3, fin e4 fun z => by rw [z, hp7] at e4; cases e4⟩
end
end Kx


set_option maxHeartbeats 8000000
namespace Kx
open PySem L2
theorem add1_mem (acc : List Str) (z y : Str) : y ∈ add1 acc z ↔ y ∈ acc ∨ y = z := by
  unfold add1
  by_cases e : z ∈ acc
  · rw [if_pos e]
    exact ⟨.inl, fun h => h.elim id fun q => by rw [q]; exact e⟩
  · rw [if_neg e]
    simp
theorem addAll_in : ∀ (zs acc : List Str) (y : Str), y ∈ addAll acc zs ↔ y ∈ acc ∨ y ∈ zs
  | [], acc, y => by simp [addAll]
  | z :: zs, acc, y => by
    have e : addAll acc (z :: zs) = addAll (add1 acc z) zs := rfl
    rw [e, addAll_in zs (add1 acc z) y, add1_mem]
    simp [or_assoc]
end Kx
namespace Kx
open PySem PyProof.Rows L2
/-- which keys a list of texts has -/
def has (xs : List Str) (k : Key) : Bool := xs.any fun x => decide (k = Sum.inr x)
theorem has_in (xs : List Str) (z : Str) : has xs (Sum.inr z) = decide (z ∈ xs) := by
  induction xs with
  | nil => rfl
  | cons x xs ih =>
    show (decide ((Sum.inr z : Key) = Sum.inr x) || has xs (Sum.inr z)) = decide (z ∈ x :: xs)
    rw [ih]
    by_cases e : z = x
    · subst e; simp
    · have e3 : ¬ (Sum.inr z : Key) = Sum.inr x := fun h => e (Sum.inr.inj h)
      simp [e, e3]
theorem has_take {xs : List Str} {i : Nat} {x : Str} (h : xs[i]? = some x) (k : Key) : (has (xs.take i) k || decide (k = Sum.inr x)) = has (xs.take (i + 1)) k := by
  unfold has
  rw [List.take_add_one, h, List.any_append]
  simp
section
variable {prog : Program} {w : World} {A : Around} {E : Value → Shared → Prop}
theorem add_text {S : Addr} {f : Key → Bool} {m : Nat} {x : Str} {t : Tok} {s : Shared} {Q : Bool → Shared → Prop} (hS : s.heap.SetOf (mixKind prog w) S f m) (room : m + 1 < scanBound)
    (next : ∀ h' b, Heap.SameBut S s.heap h' → h'.SetOf (mixKind prog w) S (fun k => f k || decide (k = Sum.inr x)) (if f (Sum.inr x) = true then m else m + 1) → Q b { s with heap := h', toks := s.toks + 1 }) : wpAny (model prog w) A (setAdd S (.str x t)) Q E s := by
  unfold setAdd
  refine wpAny_holding (wpAny_bind ((mixKind prog w).pyHash (k := Sum.inr x) (keyIs_str x t) (wpAny_setAddHashed_of (knd := mixKind prog w) (s := { s with toks := s.toks + 1 }) (keyIs_str x t) rfl hS room fun h' sb new => next h' _ sb new)))
variable {R : Result → Shared → Prop} {I : Addr} {fp wr : List Addr} {G : Array GenState → Array GenState → Prop} {n : Nat} {P : Nat → Value → Prop} {St : Nat → Shared → Prop}
theorem fill_texts (W : WalksS prog w A.in1 I fp wr G n P St) (S : Addr) (out : S ∉ fp) (xs : List Str) (size : xs.length = n) (room : n + 1 < scanBound) (text : ∀ i v, P i v → ∃ x t, xs[i]? = some x ∧ v = .str x t) :
    ∀ (left i : Nat) (s : Shared), i + left = n → St i s → s.heap.SetOf (mixKind prog w) S (has (xs.take i)) (addAll [] (xs.take i)).length →
      (∀ s', Moved (S :: wr) G s s' → s'.heap.SetOf (mixKind prog w) S (has xs) (addAll [] xs).length → R (.ok (.ret .none)) s') → codeAny (model prog w) A (.builtin "set.update.loop" ⟨[.ref S, .ref I], []⟩) R s := by
  have apart : S ∉ wr := fun z => out (W.sub _ z)
  have into : ∀ b ∈ wr, b ∈ S :: wr := fun _ z => .tail _ z
  have stay : ∀ {s s' : Shared} {f : Key → Bool} {m : Nat}, Moved wr G s s' → s.heap.SetOf (mixKind prog w) S f m → s'.heap.SetOf (mixKind prog w) S f m := fun mv h => setOf_at h fun o q => mv.heap S o apart q
  intro left
  induction left with
  | zero =>
    intro i s e st hS done
    obtain rfl : i = n := by omega
    refine codeAny_builtin F.entry_set_update_loop ?_
    rw [Around.under_plainId F.plain_set_update_loop _]
    show wpAny _ A.in1 (pyNext (.ref I) >>= _) _ _ s; refine wpAny_bind (W.done s _ _ st fun s' mv => ?_)
    show wpAny _ A.in1 (ret Value.none) _ _ s'; refine wpAny_pure (done s' (mv.mono into) ?_)
    have z := stay mv hS
    rw [← size, List.take_length] at z
    exact z
  | succ left ih =>
    intro i s e st hS done
    refine codeAny_builtin F.entry_set_update_loop ?_
    rw [Around.under_plainId F.plain_set_update_loop _]
    show wpAny _ A.in1 (pyNext (.ref I) >>= _) _ _ s; refine wpAny_bind (W.item i s _ _ (by omega) st fun v s' hP st' mv => ?_)
    obtain ⟨x, t, hx, rfl⟩ := text i v hP
    have few : (addAll [] (xs.take i)).length ≤ i := by
      have h := addAll_len (xs.take i) []
      rw [List.length_take] at h
      simp only [List.length_nil] at h
      omega
    have cnt : (if has (xs.take i) (Sum.inr x) = true then (addAll [] (xs.take i)).length else (addAll [] (xs.take i)).length + 1) = (addAll [] (xs.take (i + 1))).length := by
      rw [List.take_add_one, hx, Option.toList_some, addAll_one, has_in]
      unfold add1
      have q := addAll_in (xs.take i) [] x
      simp only [List.not_mem_nil, false_or] at q
      by_cases e : x ∈ xs.take i
      · rw [if_pos (decide_eq_true e), if_pos (q.mpr e)]
      · rw [if_neg (by rw [decide_eq_false e]; decide), if_neg (fun h => e (q.mp h)), List.length_append]
        rfl
    show wpAny _ A.in1 (holding [Value.str x t] (setAdd S (.str x t)) >>= _) _ _ s'; refine wpAny_bind (wpAny_holding (add_text (stay mv hS) (by omega) fun h' b sb new => ?_))
    have ef : (fun k => has (xs.take i) k || decide (k = Sum.inr x)) = has (xs.take (i + 1)) := funext (has_take hx)
    rw [ef, cnt] at new
    refine wpAny_pure ⟨plainId_quiet F.plain_set_update_loop _, ih (i + 1) _ (by omega) (W.frame _ s' _ _ st' (Nat.le_succ _) fun b hb o q => ?_) new fun s'' mv2 fin => done s'' ?_ fin⟩
    · have ne : b ≠ S := fun z => out (z ▸ hb)
      rw [sb.2 b ne]
      exact q
    · refine Moved.trans W.gtrans ((mv.mono into).then_heap (Nat.le_succ _) fun b o hb q => ?_) mv2
      have ne : b ≠ S := fun z => hb (z ▸ .head _)
      rw [sb.2 b ne]
      exact q
end
/-- a new set -/
abbrev emptySet (led : Bool) : Obj := { cls := .type "set", dict := none, data := .set #[] 0 (.fresh 0 0 led) }
section
variable {prog : Program} {w : World} {A : Around} {E : Value → Shared → Prop}

theorem setT_list {l : Addr} {items : Array Value} {xs : List Str} {s : Shared} {Q : Value → Shared → Prop} (calm : A.handled = none) (at_ : s.heap.IsList l items) (texts : StrsAre items.toList xs) (few : xs.length ≤ 1000)
    (next : ∀ h' tk, h'.SetOf (mixKind prog w) s.heap.objs.size (has xs) (addAll [] xs).length → (∀ b o, b < s.heap.objs.size → s.heap.get? b = some o → h'.get? b = some o) → Q (.ref s.heap.objs.size) { s with heap := h', toks := tk }) :
    wpAny (model prog w) A (call (.type "set") [.ref l]) Q E s := by
  have f1 := PySem.F.called_set.mro; have f2 := PySem.F.called_set.made; have f3 := PySem.F.called_set.sub; have f4 := PySem.F.called_set.notType
  have f5 := PySem.F.called_set.canCreate; have f6 := PySem.F.typeCall_set_1 (.ref l); have f7 := PySem.F.called_set.init.lookup; have f8 := PySem.F.called_set.init.bind (.ref s.heap.objs.size)
  obtain ⟨_, _, f1⟩ := f1
  refine wpAny_call (codeAny_of_tree ?_); show wpAny _ _ (callAny (.type "set") _) _ _ _
  refine wpAny_pure ⟨Code.quiet_builtin _ (by decide +kernel), codeAny_builtin PySem.F.entry_type_call ?_⟩; rw [Around.under_plain (weight_type_call_type "set" [.ref l] []) rfl]
  repeat (any_goals (first | assumption | wp_step))
  refine codeAny_mono (code_set_new_1 (.ref l) (E := E) (Q₁ := fun v t => ∃ led : Bool, v = .ref s.heap.objs.size ∧ t = { s with heap := s.heap.push (emptySet led) }) fun led => ⟨led, rfl, rfl⟩) fun r s1 got => ?_
  cases r with
  | error e => exact got
  | ok fl =>
    cases fl with
    | next => exact got.elim
    | brk => exact got.elim
    | cont => exact got.elim
    | ret v =>
      obtain ⟨led, rfl, rfl⟩ := got
      have at0 : (s.heap.push (emptySet led)).get? s.heap.objs.size = some (emptySet led) := Heap.get?_push_size _ rfl
      have ty0 : Shared.TypeIs { s with heap := s.heap.push (emptySet led) } (.ref s.heap.objs.size) "set" := ⟨_, at0, rfl⟩
      repeat (any_goals (first | assumption | wp_step))
      refine codeAny_mono (codeAny_call_builtin (R := wants (fun r t => r = .none ∧ ∃ h' tk, t = { s with heap := h', toks := tk } ∧ h'.SetOf (mixKind prog w) s.heap.objs.size (has xs) (addAll [] xs).length ∧ ∀ b o, b < s.heap.objs.size → s.heap.get? b = some o → h'.get? b = some o) E)
        PySem.F.called_set.init.plain PySem.F.entry_set_init (check_set_init_1 ty0 ?_)) fun r s2 got => ?_
      · obtain ⟨⟨ocls, od, odata, osl⟩, hol, hcl, nl, hdl⟩ := at_
        simp only at hcl hdl; subst hcl; subst hdl
        have hol' : (s.heap.push (emptySet led)).get? l = some { cls := .type "list", dict := od, data := .seq items nl, slots := osl } := Heap.get?_push_of_some _ hol
        have g1 := PySem.F.sub_list_set; have g2 := PySem.F.sub_list_frozenset; have g3 : (Value.type "list" == Value.type "dict") = false := by decide
        have at1 : (s.heap.push (emptySet led)).IsList l items := ⟨_, hol', rfl, nl, rfl⟩
        unfold emptySet at hol'
        unfold Builtin.«set.__init__» noKeywords Builtin.Frozenset.updateFrom emptySet
        generalize keepI : pyIter = it_
        wp_walk
        subst keepI
        refine wpAny_pyIter_list at1 (wpAny_bind (wpAny_runValue ?_))
        have lt : l < s.heap.objs.size := Heap.lt_size hol
        have size : xs.length = items.size := by rw [← StrsAre.len_eq texts, Array.length_toList]
        have room : (s.heap.push (emptySet led)).objs.size = s.heap.objs.size + 1 := Heap.size_push _ _
        have W := (Walks.list (prog := prog) (w := w) (A := A.in1.in1.in1) (by simp [calm]) (s.heap.push (emptySet led)).objs.size l (by rw [room]; exact Nat.ne_of_lt (Nat.lt_succ_of_lt lt)) items).toS
        refine fill_texts W s.heap.objs.size (by rw [room]; simp only [List.mem_cons, List.not_mem_nil, or_false, not_or]; exact ⟨Nat.ne_of_lt (Nat.lt_succ_self _), Nat.ne_of_gt lt⟩) xs size (by unfold scanBound; omega) (fun i v hv => ?_) items.size 0 _ (Nat.zero_add _) ⟨⟨_, Heap.get?_push_size _ rfl, rfl, rfl⟩, at1.push _⟩ ?_ fun s' mv fin => ?_
        · obtain ⟨t, e⟩ := SS.strs_at texts i v (by rw [Array.getElem?_toList]; exact hv)
          have lt2 : i < xs.length := by rw [size]; exact (Array.getElem?_eq_some_iff.mp hv).1
          exact ⟨_, t, by rw [List.getD_eq_getElem?_getD, List.getElem?_eq_getElem lt2]; rfl, e⟩
        · exact ⟨_, #[], 0, _, Heap.get?_push_of_some _ at0, ⟨rfl, rfl, rfl⟩, rfl, fun e he => by simp at he, fun k => by rw [List.take_zero]; simp [has], by unfold scanBound; decide, rfl, rfl⟩
        · obtain ⟨h', g', d', tk', os'⟩ := s'
          obtain rfl := mv.gens; obtain rfl := mv.drawn; obtain rfl := mv.os
          refine wpAny_pure (wpAny_pure ⟨rfl, h', tk', rfl, fin, fun b o hb e => ?_⟩)
          refine mv.heap b o ?_ (Heap.get?_push_of_some _ (Heap.get?_push_of_some _ e))
          rw [room]; simp only [List.mem_cons, List.not_mem_nil, or_false, not_or]; exact ⟨Nat.ne_of_lt hb, Nat.ne_of_lt (Nat.lt_succ_of_lt hb)⟩
      · cases r with
        | error e => exact got
        | ok fl =>
          cases fl with
          | next => exact got.elim
          | brk => exact got.elim
          | cont => exact got.elim
          | ret v =>
            obtain ⟨rfl, h', tk, rfl, fin, kp⟩ := got
            repeat (any_goals (first | assumption | wp_step))
            exact next h' tk fin kp

end
end Kx
namespace Kx
open PySem PySem.Spec PyProof.Rows L2
section
variable {X : Cx}
/-- set(xs), xs a list or a tuple of texts -/
def rSetT (K : PySem.W.Frag) (P : Program) (w : World) : List V → Hp → VK → Prop := fun xs H Q => ∃ (l : Addr) (ys : List Str), xs = [.ref l] ∧ SqL K H l (ys.map V.str) ∧ ys.length ≤ 1000 ∧
  ∀ p, H p = none → Q (.ref p) (upd H p (SetK P w p (has ys) (addAll [] ys).length))
theorem strs_of : ∀ {ys : List Str} {us : List Value}, Vals (ys.map V.str) us → StrsAre us ys
  | [], _, .nil => .nil
  | y :: ys, _, .cons ⟨k, e⟩ t => by subst e; exact .cons y k (strs_of t)
theorem cr_setT (hc : X.A.handled = none) : CallR X (.type "set") (rSetT X.K X.prog X.w) := by
  intro pins s σ H xs us Q I r h
  obtain ⟨l, ys, rfl, hq, few, q⟩ := h
  rw [Vals.ref1 r]
  obtain ⟨its, rv, pl, _⟩ := I.list hq
  exact setT_list hc pl.isList (by simpa using strs_of rv) few fun h' tk new kp =>
    ⟨.ref s.heap.objs.size, upd H s.heap.objs.size (SetK X.prog X.w s.heap.objs.size (has ys) (addAll [] ys).length), I.laid (t' := tk) (fun b o e => kp b o (Heap.lt_size e) e) (Nat.le_refl _) (setK_new new), rfl, q _ (I.hok.fresh (Nat.le_refl _))⟩
/-- len of a set of texts -/
def rLenS (P : Program) (w : World) : List V → Hp → VK → Prop := fun xs H Q => ∃ (a : Addr) (f : Key → Bool) (n : Nat), xs = [.ref a] ∧ H a = some (SetK P w a f n) ∧ Q (.int n) H
theorem call_lenS : CallR X (.builtin "len") (rLenS X.prog X.w) := by
  intro pins s σ H xs us Q I r h
  obtain ⟨a, f, n, rfl, ha, q⟩ := h
  rw [Vals.ref1 r]
  obtain ⟨o, es, ep, t, ho, hex, hd, _, _, hsz, hf, rfl⟩ := setK_get I ha
  refine call_len_set ho hex hd hf ?_ ⟨.int es.size, H, I.tok _, ⟨_, rfl⟩, q⟩
  have : scanBound < 2 ^ 62 := by unfold scanBound; decide
  omega
end
end Kx


set_option maxHeartbeats 4000000
namespace Kx
open PySem L2
/-! the parts of a stand, as data -/
def oD : Option Str → PyData
  | none => .none
  | some z => .str z
def cD (c : Int × Bool) : PyData := .tuple [.int c.1, .bool c.2]
def codeD (r : Str) (ss : List (Option Str)) (cs : List (Int × Bool)) : PyData := .tuple [.str r, .tuple (ss.map oD), .tuple (cs.map cD)]
theorem eqv_oD : ∀ a b : Option Str, PyData.eqv (oD a) (oD b) = decide (a = b)
  | none, none => rfl
  | none, some b => rfl
  | some a, none => rfl
  | some a, some b => by
    show PyData.eqv (.str a) (.str b) = _
    rw [eqv_str]
    by_cases h : a = b
    · subst h; simp
    · simp [h]
theorem eqv_cD (a b : Int × Bool) : PyData.eqv (cD a) (cD b) = decide (a = b) := by
  obtain ⟨i, x⟩ := a
  obtain ⟨j, y⟩ := b
  show (PyData.eqv (.int i) (.int j) && (PyData.eqv (.bool x) (.bool y) && true)) = _
  by_cases h : i = j
  · subst h
    cases x <;> cases y <;> simp [PyData.eqv]
  · simp [PyData.eqv, h]
theorem eqv_seats (a b : List (Option Str)) : PyData.eqv (.tuple (a.map oD)) (.tuple (b.map oD)) = decide (a = b) := by
  show PyData.eqvAll (a.map oD) (b.map oD) = _
  exact eqvAll_map eqv_oD a b
theorem eqv_clocks (a b : List (Int × Bool)) : PyData.eqv (.tuple (a.map cD)) (.tuple (b.map cD)) = decide (a = b) := by
  show PyData.eqvAll (a.map cD) (b.map cD) = _
  exact eqvAll_map eqv_cD a b
theorem eqv_code (r r' : Str) (ss ss' : List (Option Str)) (cs cs' : List (Int × Bool)) : PyData.eqv (codeD r ss cs) (codeD r' ss' cs') = decide (r = r' ∧ ss = ss' ∧ cs = cs') := by
  show (PyData.eqv (.str r) (.str r') && (PyData.eqv (.tuple (ss.map oD)) (.tuple (ss'.map oD)) && (PyData.eqv (.tuple (cs.map cD)) (.tuple (cs'.map cD)) && true))) = _
  rw [eqv_str, eqv_seats, eqv_clocks]
  by_cases h1 : r = r' <;> by_cases h2 : ss = ss' <;> by_cases h3 : cs = cs' <;> simp [h1, h2, h3]
theorem lab_fine {z : Str} (h : isLab z = true) : PyData.strOk z = true := low_ok (lab_low h).1
theorem lay_oD {o : Option Str} (h : ∀ z, o = some z → isLab z = true) : PyData.canLay0 (oD o) = true ∧ PyData.depth (oD o) ≤ 0 := by
  cases o with
  | none => exact ⟨rfl, Nat.le_refl _⟩
  | some z => exact ⟨lab_fine (h z rfl), Nat.le_refl _⟩
theorem lay_cD {c : Int × Bool} (h : 0 ≤ c.1 ∧ c.1 ≤ 40) : PyData.canLay0 (cD c) = true ∧ PyData.depth (cD c) ≤ 1 := ⟨rfl, by show max 0 (max 0 0) + 1 ≤ 1; decide⟩
theorem GoodS.fine {r : Str} {ss : List (Option Str)} {cs : List (Int × Bool)} (g : GoodS r ss cs) : (∀ o ∈ ss, ∀ z, o = some z → isLab z = true) := fun o m z e => g.2.2.2.1 z (by rw [← e]; exact m)
theorem lay_seats {ss : List (Option Str)} (g : ∀ o ∈ ss, ∀ z, o = some z → isLab z = true) : PyData.canLay0 (.tuple (ss.map oD)) = true ∧ PyData.depth (.tuple (ss.map oD)) ≤ 1 := by
  obtain ⟨a, b⟩ := lay_map (f := oD) (n := 0) (xs := ss) fun o m => lay_oD (g o m)
  exact ⟨a, by show PyData.depthAll (ss.map oD) + 1 ≤ 1; omega⟩
theorem lay_clocks {cs : List (Int × Bool)} (g : ∀ c ∈ cs, 0 ≤ c.1 ∧ c.1 ≤ 40) : PyData.canLay0 (.tuple (cs.map cD)) = true ∧ PyData.depth (.tuple (cs.map cD)) ≤ 2 := by
  obtain ⟨a, b⟩ := lay_map (f := cD) (n := 1) (xs := cs) fun c m => lay_cD (g c m)
  exact ⟨a, by show PyData.depthAll (cs.map cD) + 1 ≤ 2; omega⟩
theorem shaped_seats {ss : List (Option Str)} (g : ∀ o ∈ ss, ∀ z, o = some z → isLab z = true) : SeqAt.shaped (.tuple (ss.map oD)) = true := by
  obtain ⟨a, b⟩ := lay_seats g
  unfold SeqAt.shaped
  rw [Bool.and_eq_true]
  exact ⟨a, decide_eq_true (by omega)⟩
theorem shaped_clocks {cs : List (Int × Bool)} (g : ∀ c ∈ cs, 0 ≤ c.1 ∧ c.1 ≤ 40) : SeqAt.shaped (.tuple (cs.map cD)) = true := by
  obtain ⟨a, b⟩ := lay_clocks g
  unfold SeqAt.shaped
  rw [Bool.and_eq_true]
  exact ⟨a, decide_eq_true (by omega)⟩
theorem shaped_code {r : Str} {ss : List (Option Str)} {cs : List (Int × Bool)} (g : GoodS r ss cs) : SeqAt.shaped (codeD r ss cs) = true := by
  obtain ⟨a1, b1⟩ := lay_seats g.fine
  obtain ⟨a2, b2⟩ := lay_clocks g.2.2.2.2.2
  unfold SeqAt.shaped
  rw [Bool.and_eq_true]
  refine ⟨?_, decide_eq_true ?_⟩
  · show (PyData.canLay0 (.str r) && (PyData.canLay0 (.tuple (ss.map oD)) && (PyData.canLay0 (.tuple (cs.map cD)) && true))) = true
    rw [a1, a2, show PyData.canLay0 (.str r) = true from lab_fine g.1]
    rfl
  · show max (PyData.depth (.str r)) (max (PyData.depth (.tuple (ss.map oD))) (max (PyData.depth (.tuple (cs.map cD))) 0)) + 1 ≤ 64
    have : PyData.depth (.str r) = 0 := rfl
    omega
/-- a tuple of a room, seats and clocks -/
structure CodeAt (H : Hp) (a : Addr) (r : Str) (ss : List (Option Str)) (cs : List (Int × Bool)) : Prop where
  ob : ∃ sa ca xs, H a = some (.tup [.str r, .ref sa, .ref ca]) ∧ H sa = some (.tup (ss.map oV)) ∧ H ca = some (.tup xs) ∧ Paired (ClkT H) xs cs
theorem CodeAt.keep {H H' : Hp} {a : Addr} {r : Str} {ss : List (Option Str)} {cs : List (Int × Bool)} (h : CodeAt H a r ss cs) (s : Same H H') : CodeAt H' a r ss cs := by
  obtain ⟨⟨sa, ca, xs, h1, h2, h3, h4⟩⟩ := h
  exact ⟨⟨sa, ca, xs, s _ _ h1, s _ _ h2, s _ _ h3, pr_imp h4 fun _ _ q => q.keep s⟩⟩
theorem dp_seats {K : PySem.W.Frag} {H : Hp} : ∀ ss : List (Option Str), DpAll K H (ss.map oV) (ss.map oD)
  | [] => .nil
  | none :: ss => .cons .non (dp_seats ss)
  | some z :: ss => .cons (.str z) (dp_seats ss)
theorem dpS {K : PySem.W.Frag} {H : Hp} {sa : Addr} {ss : List (Option Str)} (h : H sa = some (.tup (ss.map oV))) : Dp K H (.ref sa) (.tuple (ss.map oD)) := .tup (SqT.of h) (dp_seats ss)
theorem dpC {K : PySem.W.Frag} {H : Hp} {ca : Addr} {xs : List V} {cs : List (Int × Bool)} (h : H ca = some (.tup xs)) (p : Paired (ClkT H) xs cs) : Dp K H (.ref ca) (.tuple (cs.map cD)) := .tup (SqT.of h) (dpAll_of (fun x c q => by
  obtain ⟨a, rfl, h⟩ := q
  exact .tup (SqT.of h) (.cons (.int _) (.cons (.bl _) .nil))) p)
theorem CodeAt.dp {K : PySem.W.Frag} {H : Hp} {a : Addr} {r : Str} {ss : List (Option Str)} {cs : List (Int × Bool)} (h : CodeAt H a r ss cs) : Dp K H (.ref a) (codeD r ss cs) := by
  obtain ⟨⟨sa, ca, xs, h1, h2, h3, h4⟩⟩ := h
  exact .tup (SqT.of h1) (.cons (.str r) (.cons (dpS h2) (.cons (dpC h3 h4) .nil)))
def spCode (C : Addr) : Sp := fun vs H Q _ => ∃ (p : Addr) (r : Str) (ss : List (Option Str)) (cs : List (Int × Bool)), vs = [.ref p] ∧ StandAt C H p r ss cs ∧ ∀ q H', Same H H' → CodeAt H' q r ss cs → Q (.ref q) H'
def spSEq (C : Addr) : Sp := fun vs H Q _ => ∃ (p : Addr) (y : V) (r : Str) (ss : List (Option Str)) (cs : List (Int × Bool)), vs = [.ref p, y] ∧ StandAt C H p r ss cs ∧
  ((∃ b r' ss' cs', y = .ref b ∧ StandAt C H b r' ss' cs' ∧ ∀ H', Same H H' → Q (.bl (decide (r = r' ∧ ss = ss' ∧ cs = cs'))) H') ∨ ∃ (b : Addr) (zs : List V), y = .ref b ∧ H b = some (.tup zs) ∧ Q (.bl false) H)
def sitOf (ss : List (Option Str)) : List Str := addAll [] (ss.filterMap id)
def spSit : Sp := fun vs H Q _ => ∃ (b : Addr) (ss : List (Option Str)), vs = [.ref b] ∧ H b = some (.tup (ss.map oV)) ∧ ss.length ≤ 1000 ∧ ∀ q H', Same H H' → H q = none → H' q = some (.tup ((sitOf ss).map V.str)) → Q (.ref q) H'
def spSPers (C : Addr) : Sp := fun vs H Q _ => ∃ (p : Addr) (r : Str) (ss : List (Option Str)) (cs : List (Int × Bool)), vs = [.ref p] ∧ StandAt C H p r ss cs ∧ ∀ q H', Same H H' → H q = none → H' q = some (.tup ((sitOf ss).map V.str)) → Q (.ref q) H'
theorem StandAt.ty {K : PySem.W.Frag} {C : Addr} {H : Hp} {p : Addr} {r : Str} {ss : List (Option Str)} {cs : List (Int × Bool)} (h : StandAt C H p r ss cs) (k : SC K C) : TyX K H (.ref p) (.ref C) := by
  obtain ⟨⟨dx, sa, ca, xs, h1, _⟩, _⟩ := h
  exact .base (.ins h1 k.cl k.ca k.cg k.ct k.cm)
section
variable {P : Program} {w : World} {K : PySem.W.Frag} {mg : Str → Option Value} {base : Heap}
theorem scCode : FnScope ["self"] ["self"] (defScope sStand_code) := ⟨rfl, rfl, rfl, by decide +kernel, rfl, by decide +kernel, by decide +kernel⟩
theorem ok_code {f C : Addr} {fd : FuncData} (F : Fun K "code" "Stand.code" sStand_code f fd) (SX : SC K C) : FnOk P w K mg base CX0 1 f fd ["self"] (spCode C) := by
  refine F.ok scCode (fun vs H Q E h => ?_) (fun cdv A outer s H vs Q E hr h => ?_)
  · obtain ⟨p, r, ss, cs, rfl, _⟩ := h
    rfl
  · obtain ⟨p, r, ss, cs, rfl, ⟨⟨dx, sa, ca, xs, h1, h2, h3, h4⟩, g⟩, k⟩ := h
    refine ⟨_, pss_one (ps_ret (pe_tup (pa_cons (pe_fld (pv 0) rfl) (pa_cons (pe_fld (pv 0) rfl) (pa_cons (pe_fld (pv 0) rfl) pa_nil))))), ?_⟩
    refine ⟨_, rfl, p, C, dx, _, _, rfl, h1, SX.cl, SX.nR, sFs_r _ _ _, _, rfl, p, C, dx, _, _, rfl, h1, SX.cl, SX.nS, sFs_s _ _ _, _, rfl, p, C, dx, _, _, rfl, h1, SX.cl, SX.nC, sFs_c _ _ _, (by show 3 ≤ sizeLine; decide), fun q hq => ?_⟩
    have s1 := sameUpd (o := .tup [.str r, .ref sa, .ref ca]) (Same.refl H) hq
    exact k q _ s1 ⟨⟨sa, ca, xs, upd_same, s1 _ _ h2, s1 _ _ h3, pr_imp h4 fun _ _ q => q.keep s1⟩⟩
theorem scSEq : FnScope ["self", "other"] ["self", "other"] (defScope sStand_eq) := ⟨rfl, rfl, rfl, by decide +kernel, rfl, by decide +kernel, by decide +kernel⟩
theorem ok_standeq {f C pC gC : Addr} {fd fdC : FuncData} (F : Fun K "__eq__" "Stand.__eq__" sStand_eq f fd) (B : Bm mg) (SX : SC K C) (mS : mg "Stand" = some (.ref C)) (isT : PySem.W.kitOne K (.type "tuple") (.ref C) = some false) (PC : PropOf K C "code" pC gC) (GC : FnOk P w K mg base CX0 1 gC fdC ["self"] (spCode C)) (bC : Binds K fdC ["self"] []) :
    FnOk P w K mg base CX0 3 f fd ["self", "other"] (spSEq C) := by
  refine F.ok scSEq (fun vs H Q E h => ?_) (fun cdv A outer s H vs Q E hr h => ?_)
  · obtain ⟨p, y, r, ss, cs, rfl, _⟩ := h
    rfl
  · obtain ⟨p, y, r, ss, cs, rfl, hp, h⟩ := h
    refine ⟨_, pss_one (ps_ret (pe_and (pe_callB call_isi (by rfl) B.isinstance (by decide +kernel) (pa_cons (pv 1) (pa_cons (pe_glob (v := .ref C) rfl mS rfl) pa_nil)))
      (pe_one (pe_cmpR (op_eqD hr.units) (pe_prop (pv 0) SX.cl PC GC hr bC .nil pass0 (by rfl)) (pe_prop (pv 1) SX.cl PC GC hr bC .nil pass0 (by rfl)) (nomark _))))), ?_⟩
    obtain ⟨dx, sa, ca, xs, h1, h2, h3, h4⟩ := hp.ob
    rcases h with ⟨b, r', ss', cs', rfl, hb, k⟩ | ⟨b, zs, rfl, hb, k⟩
    · obtain ⟨dx', sa', ca', xs', g1, g2, g3, g4⟩ := hb.ob
      refine ⟨_, rfl, _, _, _, _, _, rfl, .own C, hb.ty SX, kit_self, _, rfl, iteT ?_⟩
      refine ⟨_, rfl, p, dx, _, rfl, h1, p, r, ss, cs, rfl, hp, fun q H1 s1 c1 => ⟨_, rfl, b, dx', _, rfl, s1 _ _ g1, b, r', ss', cs', rfl, hb.keep s1, fun q' H2 s2 c2 => ?_⟩⟩
      refine ⟨codeD r ss cs, codeD r' ss' cs', (c1.keep s2).dp, c2.dp, shaped_code hp.good, shaped_code hb.good, ?_⟩
      rw [eqv_code]
      exact k _ (s1.trans s2)
    · exact ⟨_, rfl, _, _, _, _, _, rfl, .own C, .base (.tup hb), isT, _, rfl, iteF k⟩
theorem scSit : FnScope ["seats", "found", "person"] ["seats"] (defScope sSitters) := ⟨rfl, rfl, rfl, by decide +kernel, rfl, by decide +kernel, by decide +kernel⟩
theorem ok_sit {f : Addr} {fd : FuncData} (F : Fun K "sitters" "sitters" sSitters f fd) (m : mg "sitters" = some (.ref f)) (B : Bm mg) : HasF P w K mg base "sitters" 1 ["seats"] spSit := by
  refine ⟨f, fd, ?_, m, F.kp, F.binds fun _ _ _ _ _ _ us hl => match us, hl with | [_], _ => rfl⟩
  refine F.ok scSit (fun vs H Q E h => ?_) (fun cdv A outer s H vs Q E hr h => ?_)
  · obtain ⟨b, ss, rfl, _⟩ := h
    rfl
  · obtain ⟨b, ss, rfl, hb, l, k⟩ := h
    have hu := hu_of hr
    refine ⟨_, (pss_cons (ps_set (i := 1) scSit.nd rfl (Or.inl rfl) pe_dnewK)
    (pss_cons (ps_for PassesOwn.never rfl (pi_tup (pv 0)) (pg_name (i := 2) scSit.nd rfl (.inl rfl))
        (pss_one (ps_if (pt_cmpR op_notN (pv 2) pe_non (nomark _)) (pss_one (ps_dput hu (pv 1) (pv 2) pe_bl rfl)) pss_nil)))
    (pss_one (ps_ret (pe_callTy (call_tuple_dK rfl) (by rfl) B.tuple (by decide +kernel) (pa_cons (pv 1) pa_nil)))))), ?_⟩
    refine fun f hf => ?_
    have s0 : Same H (upd H f (.dK [])) := sameUpd (Same.refl _) hf
    refine ⟨_, rfl, b, rfl, ⟨_, SqT.of (s0 _ _ hb)⟩, for_tup (K := K) (a := b) (xs := ss.map oV) (fun i σ H2 => ∃ v2 : Option V, σ = [some (.ref b), some (.ref f), v2] ∧ Same H H2 ∧ H2 f = some (.dK (pD (addAll [] ((ss.take i).filterMap id)))))
      ⟨none, rfl, s0, upd_same⟩ (fun i σ H2 _ ⟨_, _, s, _⟩ => SqT.of (s _ _ hb)) ?_ ?_⟩
    · rintro i x σ H2 hi ⟨v2, rfl, s2, hd2⟩
      rw [List.getElem?_map] at hi
      obtain ⟨o, ho, rfl⟩ : ∃ o, ss[i]? = some o ∧ x = oV o := by
        cases e : ss[i]? with
        | none => rw [e] at hi; cases hi
        | some z => rw [e] at hi; exact ⟨z, rfl, (Option.some.inj hi).symm⟩
      have st : (ss.take (i + 1)).filterMap id = (ss.take i).filterMap id ++ o.toList := by
        rw [List.take_add_one, ho, List.filterMap_append]
        cases o <;> rfl
      cases o with
      | none =>
        refine ⟨_, rfl, rfl, _, rfl, iteF ⟨_, rfl, s2, ?_⟩⟩
        rw [st]
        simpa using hd2
      | some z =>
        have bound : (pD (addAll [] ((ss.take i).filterMap id))).length < sizeLine := by
          unfold pD
          rw [List.length_map]
          refine line2 ?_
          have b1 := addAll_len ((ss.take i).filterMap id) []
          have b2 : ((ss.take i).filterMap id).length ≤ (ss.take i).length := List.length_filterMap_le _ _
          rw [List.length_take] at b2
          simp only [List.length_nil] at b1
          omega
        refine ⟨_, rfl, rfl, _, rfl, iteT ⟨_, rfl, _, rfl, f, _, rfl, DPut.k (k := Sum.inr z) hd2 bound, some (.str z), rfl, fun c' o e => ?_, ?_⟩⟩
        · rw [upd_ne (ne_of_none e hf)]
          exact s2 c' o e
        · rw [upd_same, pD_put, st]
          show _ = some (HO.dK (pD (addAll [] ((ss.take i).filterMap id ++ [z]))))
          rw [addAll_one]
    · rintro σ H2 ⟨v2, rfl, s2, hd2⟩
      rw [List.length_map, List.take_length] at hd2
      refine ⟨_, rfl, f, _, rfl, hd2, fun q hq => k q _ (sameUpd s2 hq) (s2.free hq) ?_⟩
      rw [upd_same, pD_keys]
      rfl
theorem scSPers : FnScope ["self"] ["self"] (defScope sStand_persons) := ⟨rfl, rfl, rfl, by decide +kernel, rfl, by decide +kernel, by decide +kernel⟩
theorem ok_spers {f C : Addr} {fd : FuncData} (F : Fun K "persons" "Stand.persons" sStand_persons f fd) (SX : SC K C) (Si : HasF P w K mg base "sitters" 1 ["seats"] spSit) : FnOk P w K mg base CX0 2 f fd ["self"] (spSPers C) := by
  obtain ⟨f1, fd1, Si⟩ := Si
  refine F.ok scSPers (fun vs H Q E h => ?_) (fun cdv A outer s H vs Q E hr h => ?_)
  · obtain ⟨p, r, ss, cs, rfl, _⟩ := h
    rfl
  · obtain ⟨p, r, ss, cs, rfl, ⟨⟨dx, sa, ca, xs, h1, h2, h3, h4⟩, g⟩, k⟩ := h
    refine ⟨_, pss_one (ps_ret (pe_call Si.G hr (by rfl) Si.m Si.kp Si.b .nil pass0 (pa_cons (pe_fld (pv 0) rfl) pa_nil))), ?_⟩
    refine ⟨_, rfl, p, C, dx, _, _, rfl, h1, SX.cl, SX.nS, sFs_s _ _ _, sa, ss, rfl, h2, Nat.le_trans g.2.2.1 (by decide), fun q H' s e e2 => k q H' s e e2⟩
end
end Kx


set_option maxHeartbeats 4000000
namespace Kx
open PySem L2
/-! renamings: what is told as one -/
inductive NamesIs (P : Program) (w : World) (H : Hp) : V → Option (List (Option Key × V)) → Prop where
  | dct {a : Addr} {kvs : List (Option Key × V)} (h : MapAt P w H a kvs) (t : ∀ kv ∈ kvs, ∃ n, Thing H kv.2 n) : NamesIs P w H (.ref a) (some kvs)
  | oth {y : V} {n : String} (h : Kd H y n) (l : (n == "dict") = false) : NamesIs P w H y none
theorem NamesIs.keep {P : Program} {w : World} {H H' : Hp} {y : V} {r : Option (List (Option Key × V))} (h : NamesIs P w H y r) (s : Same H H') : NamesIs P w H' y r := by
  cases h with
  | dct h t => exact .dct (h.keep s) fun kv m => (t kv m).imp fun n q => q.keep s
  | oth h l => exact .oth (h.keep s) l
theorem NamesIs.isi {P : Program} {w : World} {K : PySem.W.Frag} {H : Hp} {y : V} {r : Option (List (Option Key × V))} {Q : VK} (h : NamesIs P w H y r) (q : Q (.bl r.isSome) H) : rIsiM P w K [y, .ty "dict"] H Q := by
  cases h with
  | dct h t => exact .inr ⟨_, _, rfl, h, q⟩
  | oth h l =>
    rename_i n
    refine .inl ⟨_, _, _, _, _, rfl, .ty _, h.ty, kit_ty (kit_dict h.kits), ?_⟩
    rw [l]
    exact q
structure Bd (mg : Str → Option Value) : Prop where
  dict : mg "dict" = none
  set : mg "set" = none
abbrev atN (kvs : List (Option Key × V)) (z : Str) : Option V := valV kvs (some (Sum.inr z) : Option Key)
def labO : Option V → Bool
  | some v => labV v
  | none => false
def strO : Option V → Option Str
  | some (.str z) => some z
  | _ => none
theorem labO_str {o : Option V} (h : labO o = true) : ∃ z, o = some (.str z) ∧ isLab z = true ∧ strO o = some z := by
  cases o with
  | none => cases h
  | some v =>
    obtain ⟨z, rfl, hz⟩ := lab_str (show labV v = true from h)
    exact ⟨z, rfl, hz, rfl⟩
/-- what the persons are led to -/
def ledOf (kvs : List (Option Key × V)) (ps : List Str) : List Str := ps.filterMap fun z => strO (atN kvs z)
/-- the first word that applies to a renaming of these persons -/
def mapDue (no : Option (List (Option Key × V))) (ps : List Str) : Option Str := match no with
  | none => some "map"
  | some kvs => if ps.all (fun z => (atN kvs z).isSome) then (if ps.all (fun z => labO (atN kvs z)) then (if (addAll [] (ledOf kvs ps)).length < ps.length then some "merged" else none) else some "label") else some "person"
theorem led_len {kvs : List (Option Key × V)} : ∀ {ps : List Str}, ps.all (fun z => labO (atN kvs z)) = true → (ledOf kvs ps).length = ps.length ∧ ∀ (i : Nat) (z : Str), ps[i]? = some z → ∃ y, atN kvs z = some (.str y) ∧ (ledOf kvs ps)[i]? = some y ∧ isLab y = true
  | [], _ => ⟨rfl, fun i z e => by cases e⟩
  | z :: ps, h => by
    rw [List.all_cons, Bool.and_eq_true] at h
    obtain ⟨l, g⟩ := led_len h.2
    obtain ⟨y, e, hy, e2⟩ := labO_str h.1
    have e3 : ledOf kvs (z :: ps) = y :: ledOf kvs ps := by
      unfold ledOf
      rw [List.filterMap_cons, e2]
    refine ⟨by rw [e3, List.length_cons, List.length_cons, l], fun i x ex => ?_⟩
    rw [e3]
    cases i with
    | zero => cases ex; exact ⟨y, e, rfl, hy⟩
    | succ i => exact g i x ex
theorem val_thing {H : Hp} {kvs : List (Option Key × V)} (t : ∀ kv ∈ kvs, ∃ n, Thing H kv.2 n) {k : Option Key} {v : V} (h : valV kvs k = some v) : ∃ n, Thing H v n := by
  induction kvs with
  | nil => cases h
  | cons kv kvs ih =>
    by_cases e : kv.1 = k
    · rw [valV_pos e] at h
      cases h
      exact t kv (.head _)
    · rw [valV_neg e] at h
      exact ih (fun kv' m => t kv' (.tail _ m)) h
def spMapFault (P : Program) (w : World) (K : PySem.W.Frag) : Sp := fun vs H Q _ => ∃ (x : V) (no : Option (List (Option Key × V))) (b : Addr) (ps : List Str), vs = [x, .ref b] ∧ NamesIs P w H x no ∧ IsSeq K H b (ps.map V.str) ∧ ps.length ≤ 900 ∧ ∀ H', Same H H' → Q (wordV (mapDue no ps)) H'
/-- led along -/
def renO (kvs : List (Option Key × V)) : Option Str → Option Str
  | none => none
  | some z => strO (atN kvs z)
def spRenamed (P : Program) (w : World) (C CB : Addr) : Sp := fun vs H Q E => ∃ (p : Addr) (x : V) (no : Option (List (Option Key × V))) (r : Str) (ss : List (Option Str)) (cs : List (Int × Bool)), vs = [.ref p, x] ∧ StandAt C H p r ss cs ∧ NamesIs P w H x no ∧
  match mapDue no (sitOf ss) with
  | some w => ∀ d H', H d = none → Same H H' → H' d = some (.xd (whatF w)) → E (.ref CB) (some d) H'
  | none => ∀ q kvs H', no = some kvs → Same H H' → StandAt C H' q r (ss.map (renO kvs)) cs → Q (.ref q) H'
theorem sit_mem {ss : List (Option Str)} {z : Str} : z ∈ sitOf ss ↔ some z ∈ ss := by
  unfold sitOf
  rw [addAll_in]
  simp
theorem sit_len (ss : List (Option Str)) : (sitOf ss).length ≤ ss.length := by
  have h := addAll_len (ss.filterMap id) []
  have h2 : (ss.filterMap id).length ≤ ss.length := List.length_filterMap_le _ _
  simp only [List.length_nil] at h
  unfold sitOf
  omega
theorem mapDue_none {no : Option (List (Option Key × V))} {ps : List Str} (h : mapDue no ps = none) : ∃ kvs, no = some kvs ∧ ps.all (fun z => labO (atN kvs z)) = true ∧ ¬ (addAll [] (ledOf kvs ps)).length < ps.length := by
  cases no with
  | none => cases h
  | some kvs =>
    have h : (if ps.all (fun z => (atN kvs z).isSome) = true then (if ps.all (fun z => labO (atN kvs z)) = true then (if (addAll [] (ledOf kvs ps)).length < ps.length then some (Str.ofString "merged") else none) else some (Str.ofString "label")) else some (Str.ofString "person")) = none := h
    by_cases h1 : ps.all (fun z => (atN kvs z).isSome) = true
    · rw [if_pos h1] at h
      by_cases h2 : ps.all (fun z => labO (atN kvs z)) = true
      · rw [if_pos h2] at h
        by_cases h3 : (addAll [] (ledOf kvs ps)).length < ps.length
        · rw [if_pos h3] at h; cases h
        · exact ⟨kvs, rfl, h2, h3⟩
      · rw [if_neg h2] at h; cases h
    · rw [if_neg h1] at h; cases h
section
variable {P : Program} {w : World} {K : PySem.W.Frag} {mg : Str → Option Value} {base : Heap}
abbrev nMapFault : List Str := ["names", "persons", "person"]
theorem scMapFault : FnScope nMapFault ["names", "persons"] (defScope sMapFault) := ⟨rfl, rfl, rfl, by decide +kernel, rfl, by decide +kernel, by decide +kernel⟩
theorem ok_mapfault {f : Addr} {fd : FuncData} (F : Fun K "map_fault" "map_fault" sMapFault f fd) (m : mg "map_fault" = some (.ref f)) (T : Bl mg) (B : Bm mg) (D : Bd mg) (Lb : HasF P w K mg base "is_label" 1 ["thing"] spLabel) : HasF P w K mg base "map_fault" 2 ["names", "persons"] (spMapFault P w K) := by
  refine ⟨f, fd, ?_, m, F.kp, F.binds fun _ _ _ _ _ _ us hl => match us, hl with | [_, _], _ => rfl⟩
  obtain ⟨f2, fd2, Lb⟩ := Lb
  refine F.ok scMapFault (fun vs H Q E h => ?_) (fun cdv A outer s H vs Q E hr h => ?_)
  · obtain ⟨x, no, b, ps, rfl, _⟩ := h
    rfl
  · obtain ⟨x, no, b, ps, rfl, hx, hb, l, k⟩ := h
    have hu := hu_of hr
    refine ⟨_, (pss_cons (ps_if (pt_not (pt_val (pe_callB (call_isiM (P := P) (w := w) rfl rfl) (by rfl) B.isinstance (by decide +kernel) (pa_cons (pv 0) (pa_cons (pe_bltn (v := .ty "dict") (by rfl) D.dict (by decide +kernel) rfl) pa_nil))))) (pss_one (ps_ret pe_str)) pss_nil)
    (C8.pss_cut (ps_for PassesOwn.never rfl (pi_seq (pv 1)) (pg_name (i := 2) scMapFault.nd rfl (.inl rfl))
        (pss_one (ps_if (pt_cmp (pc_mnotin (P := P) (w := w) rfl rfl (pv 2) (pv 0))) (pss_one (ps_ret pe_str)) pss_nil)))
    (C8.pss_cut (ps_for PassesOwn.never rfl (pi_seq (pv 1)) (pg_name (i := 2) scMapFault.nd rfl (.inl rfl))
        (pss_one (ps_if (pt_not (pt_val (pe_call Lb.G hr (by rfl) Lb.m Lb.kp Lb.b .nil pass0 (pa_cons (pe_mget (P := P) (w := w) rfl rfl (pv 0) (pv 2) (fun _ _ => rfl)) pa_nil)))) (pss_one (ps_ret pe_str)) pss_nil)))
    (pss_cons (ps_if (pt_cmpR op_lt (pe_callB call_lenS (by rfl) T.len PySem.boot_len (pa_cons (pe_callTy (cr_setT hr.hd) (by rfl) D.set (by decide +kernel) (pa_cons
          (pe_lc (own := [("person", 2)]) (g := gName 2) (tt := tYes) (by rfl) scMapFault.nd (pi_seq (pv 1)) (blkOk_by (own := [("person", 2)]) (N := nMapFault) (sc := defScope sMapFault) (by decide +kernel))
          (fun _ _ _ _ _ => pg_name (i := 2) scMapFault.nd rfl (Or.inl rfl)) (fun _ _ _ _ _ => pts_nil) (fun _ _ _ _ _ => (pe_mget (P := P) (w := w) rfl rfl (pv 0) (pv 2) (fun _ _ => rfl)))) pa_nil)) pa_nil)) (pe_callB call_len_seq (by rfl) T.len PySem.boot_len (pa_cons (pv 1) pa_nil)) (nomark _)) (pss_one (ps_ret pe_str)) pss_nil)
    (pss_one (ps_ret pe_non)))))), ?_⟩
    refine ⟨_, rfl, hx.isi ⟨_, rfl, ?_⟩⟩
    cases hx with
    | oth h l' => exact iteT (k H (Same.refl _))
    | dct ha t =>
    rename_i a kvs
    refine iteF ?_
    have word : ∀ w', (if ps.all (fun z => (atN kvs z).isSome) = true then (if ps.all (fun z => labO (atN kvs z)) = true then (if (addAll [] (ledOf kvs ps)).length < ps.length then some (Str.ofString "merged") else none) else some (Str.ofString "label")) else some (Str.ofString "person")) = w' → ∀ H', Same H H' → Q (wordV w') H' := fun w' e H' s => by
      have q := k H' s
      have e2 : mapDue (some kvs) ps = w' := e
      rw [e2] at q
      exact q
    -- each is there
    refine ⟨fun σ H1 => ∃ v2 : Option V, ps.all (fun z => (atN kvs z).isSome) = true ∧ σ = [some (.ref a), some (.ref b), v2] ∧ H1 = H, ?_, ?_⟩
    · refine ⟨_, rfl, b, rfl, for_sq (K := K) (a := b) (xs := ps.map V.str) hb (fun i σ H2 => ∃ v2 : Option V, σ = [some (.ref a), some (.ref b), v2] ∧ H2 = H ∧ (ps.take i).all (fun z => (atN kvs z).isSome) = true)
        ⟨none, rfl, rfl, rfl⟩ (fun i σ H2 ⟨_, _, e, _⟩ => by rw [e]; exact Same.refl _) ?_ ?_⟩
      · rintro i y σ H2 hi ⟨v2, rfl, rfl, al⟩
        rw [List.getElem?_map] at hi
        obtain ⟨z, hz, rfl⟩ : ∃ z, ps[i]? = some z ∧ y = V.str z := by
          cases e : ps[i]? with
          | none => rw [e] at hi; cases hi
          | some z => rw [e] at hi; exact ⟨z, rfl, (Option.some.inj hi).symm⟩
        refine ⟨_, rfl, _, rfl, a, _, z, rfl, rfl, ha, _, rfl, ?_⟩
        cases e : valV kvs (some (Sum.inr z) : Option Key) with
        | none =>
          refine iteT (word (some "person") (if_neg fun q => ?_) _ (Same.refl _))
          have q2 : (valV kvs (some (Sum.inr z) : Option Key)).isSome = true := List.all_eq_true.mp q z (List.mem_of_getElem? hz)
          rw [e] at q2
          cases q2
        | some v =>
          refine iteF ⟨_, rfl, rfl, ?_⟩
          have e' : atN kvs z = some v := e
          rw [List.take_add_one, hz, List.all_append, al]
          simp [e']
      · rintro σ H2 ⟨v2, rfl, rfl, al⟩
        rw [List.length_map, List.take_length] at al
        exact ⟨v2, al, rfl, rfl⟩
    rintro σ H1 ⟨v2, al, rfl, rfl⟩
    have some_at : ∀ z ∈ ps, ∃ v n, atN kvs z = some v ∧ Thing H1 v n := fun z m => by
      have q := List.all_eq_true.mp al z m
      cases e : atN kvs z with
      | none => rw [e] at q; cases q
      | some v =>
        obtain ⟨n, tv⟩ := val_thing t e
        exact ⟨v, n, rfl, tv⟩
    -- each is led to a label
    refine ⟨fun σ H2 => ∃ v2 : Option V, ps.all (fun z => labO (atN kvs z)) = true ∧ σ = [some (.ref a), some (.ref b), v2] ∧ H2 = H1, ?_, ?_⟩
    · refine ⟨_, rfl, b, rfl, for_sq (K := K) (a := b) (xs := ps.map V.str) hb (fun i σ H2 => ∃ v2 : Option V, σ = [some (.ref a), some (.ref b), v2] ∧ H2 = H1 ∧ (ps.take i).all (fun z => labO (atN kvs z)) = true)
        ⟨v2, rfl, rfl, rfl⟩ (fun i σ H2 ⟨_, _, e, _⟩ => by rw [e]; exact Same.refl _) ?_ ?_⟩
      · rintro i y σ H2 hi ⟨v2, rfl, rfl, al2⟩
        rw [List.getElem?_map] at hi
        obtain ⟨z, hz, rfl⟩ : ∃ z, ps[i]? = some z ∧ y = V.str z := by
          cases e : ps[i]? with
          | none => rw [e] at hi; cases hi
          | some z => rw [e] at hi; exact ⟨z, rfl, (Option.some.inj hi).symm⟩
        obtain ⟨v, nv, ev, tv⟩ := some_at z (List.mem_of_getElem? hz)
        refine ⟨_, rfl, _, rfl, a, _, z, v, rfl, rfl, ha, ev, v, nv, rfl, tv.kd, (fun y e => Nat.le_of_lt (small1000 (by have := (tv.fine y e).2; omega))), _, rfl, ?_⟩
        cases e : labV v with
        | false =>
          refine iteT (word (some "label") ?_ _ (Same.refl _))
          rw [if_pos al, if_neg fun q => ?_]
          have q2 := List.all_eq_true.mp q z (List.mem_of_getElem? hz)
          rw [ev] at q2
          have q2 : labV v = true := q2
          rw [e] at q2
          cases q2
        | true =>
          refine iteF ⟨_, rfl, rfl, ?_⟩
          rw [List.take_add_one, hz, List.all_append, al2]
          simp [ev, labO, e]
      · rintro σ H2 ⟨v2, rfl, rfl, al2⟩
        rw [List.length_map, List.take_length] at al2
        exact ⟨v2, al2, rfl, rfl⟩
    rintro σ H2 ⟨v2, al2, rfl, rfl⟩
    obtain ⟨ll, lg⟩ := led_len al2
    refine ⟨_, rfl, b, rfl, lc_pure (g := gName 2) (fun j y H' => ∀ z, (ledOf kvs ps)[j]? = some z → y = V.str z) (fun j y H' H'' q s => q) hb (Same.refl _) (by rw [List.length_map]; omega) ?_ ?_ fun x σ H Q Q' q z => q _ _ z⟩
    · rintro D' i y H3 k' hi hD s3 ⟨acc, hacc⟩ kk
      rw [List.getElem?_map] at hi
      obtain ⟨z, hz, rfl⟩ : ∃ z, ps[i]? = some z ∧ y = V.str z := by
        cases e : ps[i]? with
        | none => rw [e] at hi; cases hi
        | some z => rw [e] at hi; exact ⟨z, rfl, (Option.some.inj hi).symm⟩
      obtain ⟨u, eu, el, _⟩ := lg i z hz
      refine ⟨rfl, _, rfl, _, rfl, a, _, z, _, rfl, rfl, ha.keep s3, eu, kk _ _ (Same.refl _) fun z' e => ?_⟩
      rw [el] at e
      cases e
      rfl
    · intro D' ys H3 hD s3 hd ly g
      have ey : ys = (ledOf kvs ps).map V.str := by
        refine List.ext_getElem? fun i => ?_
        rw [List.getElem?_map]
        cases e : (ledOf kvs ps)[i]? with
        | none =>
          have h1 := List.getElem?_eq_none_iff.mp e
          rw [List.length_map] at ly
          exact List.getElem?_eq_none_iff.mpr (by omega)
        | some z =>
          have h1 := (List.getElem?_eq_some_iff.mp e).1
          rw [List.length_map] at ly
          have h2 : i < ys.length := by omega
          rw [List.getElem?_eq_getElem h2, g i _ (List.getElem?_eq_getElem h2) z e]
          rfl
      subst ey
      refine ⟨D', ledOf kvs ps, rfl, SqL.of hd, by omega, fun q hq => ⟨q, _, _, rfl, upd_same, ?_⟩⟩
      have s4 := sameUpd (o := SetK P w q (has (ledOf kvs ps)) (addAll [] (ledOf kvs ps)).length) s3 hq
      refine ⟨_, rfl, b, _, rfl, (hb.keep s4).sq, _, _, rfl, rfl, _, rfl, ?_⟩
      refine ite2 (fun h1 => ?_) (fun h1 => ?_)
      · have h1 := of_decide_eq_true h1
        rw [List.length_map] at h1
        refine word (some "merged") ?_ _ s4
        rw [if_pos al, if_pos al2, if_pos (by omega)]
      · have h1 : ¬ (((addAll [] (ledOf kvs ps)).length : Int) < ((ps.map V.str).length : Int)) := fun e => h1 (decide_eq_true e)
        rw [List.length_map] at h1
        refine word none ?_ _ s4
        rw [if_pos al, if_pos al2, if_neg (by omega)]
end
end Kx


set_option maxHeartbeats 8000000
namespace Kx
open PySem L2
theorem renO_good {kvs : List (Option Key × V)} {r : Str} {ss : List (Option Str)} {cs : List (Int × Bool)} (g : GoodS r ss cs) (h : (sitOf ss).all (fun z => labO (atN kvs z)) = true) : GoodS r (ss.map (renO kvs)) cs := by
  refine ⟨g.1, by rw [List.length_map]; exact g.2.1, by rw [List.length_map]; exact g.2.2.1, fun z m => ?_, g.2.2.2.2⟩
  obtain ⟨o, mo, e⟩ := List.mem_map.mp m
  cases o with
  | none => cases e
  | some y =>
    obtain ⟨u, e1, hu, e2⟩ := labO_str (List.all_eq_true.mp h y (sit_mem.mpr mo))
    have e : strO (atN kvs y) = some z := e
    rw [e2] at e
    cases e
    exact hu
theorem renO_at {kvs : List (Option Key × V)} {ss : List (Option Str)} (h : (sitOf ss).all (fun z => labO (atN kvs z)) = true) {y : Str} (m : some y ∈ ss) : ∃ u, valV kvs (some (Sum.inr y) : Option Key) = some (.str u) ∧ renO kvs (some y) = some u := by
  obtain ⟨u, e1, hu, e2⟩ := labO_str (List.all_eq_true.mp h y (sit_mem.mpr m))
  exact ⟨u, e1, e2⟩
theorem due_good {r : Str} {ss : List (Option Str)} {cs : List (Int × Bool)} (g : GoodS r ss cs) : standDue (.str r) (some (ss.map oV)) (some (cR cs)) = none := by
  have e1 : labV (.str r) = true := g.1
  unfold standDue
  rw [if_pos e1]
  have e2 : (ss.map oV).any badS = false := by
    refine List.any_eq_false.mpr fun x m => ?_
    obtain ⟨o, mo, rfl⟩ := List.mem_map.mp m
    cases o with
    | none => decide
    | some z =>
      have q : isLab z = true := g.2.2.2.1 z mo
      show ¬ (!isLab z) = true
      rw [q]
      decide
  rw [restDue_none (by show (if _ then _ else _) = _; rw [if_pos ⟨by rw [List.length_map]; exact g.2.1, by rw [List.length_map]; exact g.2.2.1⟩, e2]; rfl)]
  have l : (cR cs).length = cs.length := by simp [cR]
  show (if _ then _ else _) = _
  rw [if_pos (by rw [l]; exact g.2.2.2.2.1)]
  have gc := g.2.2.2.2.2
  clear e1 e2 l g
  induction cs with
  | nil => rfl
  | cons c cs ih =>
    have e : clockWord (some (.int c.1, .bl c.2)) = none := by
      show (if wholeV (.int c.1) 0 40 = true then _ else _) = _
      have q := gc c (.head _)
      have w : wholeV (.int c.1) 0 40 = true := by
        show (decide (0 ≤ c.1) && decide (c.1 ≤ 40)) = true
        rw [decide_eq_true q.1, decide_eq_true q.2]
        rfl
      rw [if_pos w]
      rfl
    show (match clockWord (some (.int c.1, .bl c.2)) with | some w => some w | none => scanC (cR cs)) = none
    rw [e]
    exact ih fun d m => gc d (.tail _ m)
theorem cR_inj : ∀ {a b : List (Int × Bool)}, cR a = cR b → a = b
  | [], [], _ => rfl
  | [], _ :: _, h => by cases h
  | _ :: _, [], h => by cases h
  | x :: a, y :: b, h => by
    have h1 := List.cons.inj h
    obtain ⟨i, u⟩ := x
    obtain ⟨j, v⟩ := y
    have e1 := h1.1
    simp only [Option.some.injEq, Prod.mk.injEq, V.int.injEq, V.bl.injEq] at e1
    rw [cR_inj (a := a) (b := b) h1.2, e1.1, e1.2]
theorem oV_inj : ∀ {a b : List (Option Str)}, a.map oV = b.map oV → a = b
  | [], [], _ => rfl
  | [], _ :: _, h => by cases h
  | _ :: _, [], h => by cases h
  | x :: a, y :: b, h => by
    have h1 := List.cons.inj h
    have e : x = y := by
      cases x with
      | none => cases y with
        | none => rfl
        | some z => cases h1.1
      | some z => cases y with
        | none => cases h1.1
        | some u => exact congrArg some (V.str.inj h1.1)
    rw [e, oV_inj (a := a) (b := b) h1.2]
/-- the things of good seats -/
theorem oV_thing {ss : List (Option Str)} (h : ∀ o ∈ ss, ∀ z, o = some z → isLab z = true) (H : Hp) : ∀ x ∈ ss.map oV, ∃ n, Thing H x n := fun x m => by
  obtain ⟨o, mo, rfl⟩ := List.mem_map.mp m
  cases o with
  | none => exact ⟨_, .non, fun z e => nomatch e⟩
  | some z => exact ⟨_, .str z, fun y e => by cases e; exact ⟨lab_fine (h _ mo z rfl), by have := (lab_low (h _ mo z rfl)).2; omega⟩⟩
theorem clkT_row {H : Hp} {x : V} {c : Int × Bool} (h : ClkT H x c) : RowIs H x (some (.int c.1, .bl c.2)) := by
  obtain ⟨a, rfl, h⟩ := h
  exact .tup h ⟨.int _, fun z e => nomatch e⟩ ⟨.bl _, fun z e => nomatch e⟩
theorem clksT {K : PySem.W.Frag} {H : Hp} {ca : Addr} {xs : List V} {cs : List (Int × Bool)} (h : H ca = some (.tup xs)) (p : Paired (ClkT H) xs cs) (l : cs.length ≤ 2) : ClksIs K H (.ref ca) (some (cR cs)) := by
  refine .seq (.tup h) ?_ (by rw [Paired.length p]; omega)
  clear h l
  induction p with
  | nil => exact .nil
  | cons q t ih => exact .cons (clkT_row q) ih
/-- a good stand is made, never refused -/
theorem mk_stand {K : PySem.W.Frag} {C CB : Addr} {H : Hp} {p dx : Addr} {y z : V} {r : Str} {ss : List (Option Str)} {cs : List (Int × Bool)} {Q : VK} {E : XK} (hp : H p = some (.ins C dx [])) (g : GoodS r ss cs) (hs : SeatsIs K H y (some (ss.map oV))) (hc : ClksIs K H z (some (cR cs)))
    (k : ∀ H', Keep H H' p → StandAt C H' p r ss cs → Q .non H') : spStand K C CB [.ref p, .str r, y, z] H Q E := by
  refine ⟨p, dx, .str r, y, z, "str", _, _, rfl, hp, ⟨.str r, fun y e => by cases e; exact ⟨lab_fine g.1, by have := (lab_low g.1).2; omega⟩⟩, hs, hc, ?_⟩
  rw [due_good g]
  intro r' ss' cs' H' e1 e2 e3 _ kp st
  cases e1
  obtain rfl := oV_inj (Option.some.inj e2)
  obtain rfl := cR_inj (Option.some.inj e3)
  exact k H' kp st
section
variable {P : Program} {w : World} {K : PySem.W.Frag} {mg : Str → Option Value} {base : Heap}
abbrev nRenamed : List Str := ["self", "names", "word", "seats", "person"]
theorem scRenamed : FnScope nRenamed ["self", "names"] (defScope sStand_renamed) := ⟨rfl, rfl, rfl, by decide +kernel, rfl, by decide +kernel, by decide +kernel⟩
theorem ok_renamed {f C CS CB fB fI gP pP : Addr} {fd fdB fdI fdP : FuncData} (F : Fun K "renamed" "Stand.renamed" sStand_renamed f fd) (SX : SC K C) (MF : HasF P w K mg base "map_fault" 2 ["names", "persons"] (spMapFault P w K)) (PP : PropOf K C "persons" pP gP) (GP : FnOk P w K mg base CX0 2 gP fdP ["self"] (spSPers C)) (bP : Binds K fdP ["self"] [])
    (MK : Mk K C fI) (GI : FnOk P w K mg base (L2.CX P w) 4 fI fdI ["self", "room", "seats", "clocks"] (spStand K C CS)) (mS : mg "Stand" = some (.ref C)) (bI : Binds K fdI ["self", "room", "seats", "clocks"] [])
    (EB : ErC P w K mg base "BadMap" ["self", "what"] CB fB fdB (spInit1 K CB "what")) (n1 : PySem.W.findIn K (.ref CB) "what" = some none) :
    FnOk P w K mg base (L2.CX P w) 6 f fd ["self", "names"] (spRenamed P w C CB) := by
  obtain ⟨f1, fd1, MF⟩ := MF
  refine F.okX scRenamed (fun vs H Q E h => ?_) (fun cdv A outer s H vs Q E hr h => ?_)
  · obtain ⟨p, x, no, r, ss, cs, rfl, _⟩ := h
    rfl
  · obtain ⟨p, x, no, r, ss, cs, rfl, hp, hx, k⟩ := h
    have hu := hu_of hr
    have hr2 : Room 2 _ := hr.mono (by decide)
    have hr3 : Room 3 _ := hr.mono (by decide)
    refine ⟨_, (pss_cons (ps_set (i := 2) scRenamed.nd rfl (Or.inl rfl) (pe_call MF.G hr2 (by rfl) MF.m MF.kp MF.b .nil pass0 (pa_cons (pv 1) (pa_cons (pe_prop (pv 0) SX.cl PP GP hr3 bP .nil pass0 (by rfl)) pa_nil))))
    (pss_cons (ps_if (pt_cmpR op_notN (pv 2) pe_non (nomark _)) (pss_one (ps_raise rfl (takes_of rfl rfl rfl rfl) (pmk_oex EB.T EB.iC EB.tI EB.G hr2 EB.b .nil pass0 (by rfl) EB.gC (pa_cons (pv 2) pa_nil)))) pss_nil)
    (pss_cons (ps_setLc (i := 3) (own := [("person", 4)]) (g := gName 4) (tt := tYes) (by rfl) scRenamed.nd rfl rfl (sw_true rfl rfl rfl (by decide +kernel)) (pi_seq (pe_fld (pv 0) rfl)) (blkOk_by (own := [("person", 4)]) (N := nRenamed) (sc := defScope sStand_renamed) (by decide +kernel))
          (fun _ _ _ _ _ => pg_name (i := 4) scRenamed.nd rfl (Or.inl rfl)) (fun _ _ _ _ _ => pts_nil) (fun _ _ _ _ _ => pe_ifExp (pt_cmpR op_isN (pv 4) pe_non (nomark _)) pe_non (pe_mget (P := P) (w := w) rfl rfl (pv 1) (pv 4) (fun _ _ => rfl))))
    (pss_one (ps_ret (pe_makeS MK GI hr (by rfl) mS bI (passAt (takes_of rfl rfl rfl rfl)) (pa_cons (pe_fld (pv 0) rfl) (pa_cons (pv 3) (pa_cons (pe_fld (pv 0) rfl) pa_nil))))))))), ?_⟩
    obtain ⟨dx, sa, ca, xs, h1, h2, h3, h4⟩ := hp.ob
    refine ⟨_, rfl, _, rfl, p, dx, _, rfl, h1, p, r, ss, cs, rfl, hp, fun q H1 s1 hq0 hq => ?_⟩
    refine ⟨x, no, q, sitOf ss, rfl, hx.keep s1, .tup hq, Nat.le_trans (sit_len ss) (Nat.le_trans hp.good.2.2.1 (by decide)), fun H2 s2 => ?_⟩
    have s02 := s1.trans s2
    cases e : mapDue no (sitOf ss) with
    | some w' =>
      rw [e] at k
      refine ⟨_, rfl, rfl, _, rfl, iteT ⟨_, rfl, fin1 EB.T n1 fun d H3 hd s3 e3 => k d H3 (s02.free hd) (s02.trans s3) e3⟩⟩
    | none =>
      rw [e] at k
      obtain ⟨kvs, rfl, al, _⟩ := mapDue_none e
      cases hx with
      | dct ha t =>
      rename_i a
      refine ⟨_, rfl, rfl, _, rfl, iteF ?_⟩
      refine ⟨_, rfl, p, C, dx, _, _, rfl, s02 _ _ h1, SX.cl, SX.nS, sFs_s _ _ _, sa, rfl, lc_pure (g := gName 4) (fun j y H' => ∀ o, ss[j]? = some o → y = oV (renO kvs o)) (fun j y H' H'' q s => q) (IsSeq.tup (s02 _ _ h2)) (Same.refl _) (by rw [List.length_map]; have := hp.good.2.2.1; omega) ?_ ?_ fun x σ H Q Q' q z => q _ _ z⟩
      · rintro D' i y H3 k' hi hD s3 ⟨acc, hacc⟩ kk
        rw [List.getElem?_map] at hi
        obtain ⟨o, ho, rfl⟩ : ∃ o, ss[i]? = some o ∧ y = oV o := by
          cases e : ss[i]? with
          | none => rw [e] at hi; cases hi
          | some z => rw [e] at hi; exact ⟨z, rfl, (Option.some.inj hi).symm⟩
        cases o with
        | none =>
          refine ⟨rfl, _, rfl, rfl, _, rfl, (if_pos rfl).mpr (kk _ _ (Same.refl _) fun o e => ?_)⟩
          rw [ho] at e
          cases e
          rfl
        | some z =>
          obtain ⟨u, e1, e2⟩ := renO_at al (List.mem_of_getElem? ho)
          refine ⟨rfl, _, rfl, rfl, _, rfl, (if_neg (fun z => nomatch of_decide_eq_true z)).mpr ⟨_, rfl, _, rfl, a, _, z, _, rfl, rfl, ha.keep (s02.trans s3), e1, kk _ _ (Same.refl _) fun o e => ?_⟩⟩
          rw [ho] at e
          cases e
          rw [e2]
          rfl
      · intro D' ys H3 hD s3 hd ly g
        have ey : ys = (ss.map (renO kvs)).map oV := by
          refine List.ext_getElem? fun i => ?_
          rw [List.getElem?_map, List.getElem?_map]
          rw [List.length_map] at ly
          cases e : ss[i]? with
          | none =>
            have h1 := List.getElem?_eq_none_iff.mp e
            exact List.getElem?_eq_none_iff.mpr (by omega)
          | some o =>
            have h1 := (List.getElem?_eq_some_iff.mp e).1
            have h2 : i < ys.length := by omega
            rw [List.getElem?_eq_getElem h2, g i _ (List.getElem?_eq_getElem h2) o e]
            rfl
        subst ey
        have s03 := s02.trans s3
        have g' := renO_good (kvs := kvs) hp.good al
        refine ⟨_, rfl, p, C, dx, _, _, rfl, s03 _ _ h1, SX.cl, SX.nR, sFs_r _ _ _, _, rfl, _, rfl, p, C, dx, _, _, rfl, s03 _ _ h1, SX.cl, SX.nC, sFs_c _ _ _, fun q' dx' hq' hdx' ne => ?_⟩
        have s4 := sameUpd (o := .own q') s03 hdx'
        have s5 := sameUpd (o := .ins C dx' []) s4 (by rw [upd_ne ne.symm]; exact hq')
        refine mk_stand upd_same g' (.seq (.inl ?_) (oV_thing g'.fine _) (by rw [List.length_map]; have := g'.2.2.1; omega)) (clksT (s5 _ _ h3) (pr_imp h4 fun _ _ q => q.keep s5) g'.2.2.2.2.1) fun H6 k6 st => ⟨rfl, k q' kvs H6 rfl (fun b o e => k6 b o (s5 b o e) ?_) st⟩
        · rw [upd_ne (ne_of_none hd hq'), upd_ne (ne_of_none hd hdx')]
          exact hd
        · exact ne_of_none (s03 b o e) hq'
end
end Kx


set_option maxHeartbeats 4000000
namespace Kx
open PySem L2
/-! renamings, the mathematics alone -/
def ledD (kvs : List (Option Key × V)) : List Str → List Str
  | [] => []
  | z :: ps => z :: ledOf kvs ps
abbrev ledDs (kvs : List (Option Key × V)) (y : List (List Str)) : List (List Str) := y.map (ledD kvs)
abbrev ledY (kvs : List (Option Key × V)) (ys : List (List (List Str))) : List (List (List Str)) := ys.map (ledDs kvs)
/-- each of them leads to a label -/
def labAll (kvs : List (Option Key × V)) (ps : List Str) : Prop := ps.all (fun z => labO (atN kvs z)) = true
theorem labAll.sub {kvs : List (Option Key × V)} {ps qs : List Str} (h : labAll kvs ps) (s : ∀ z ∈ qs, z ∈ ps) : labAll kvs qs := List.all_eq_true.mpr fun z m => List.all_eq_true.mp h z (s z m)
theorem labAll.app {kvs : List (Option Key × V)} {ps qs : List Str} : labAll kvs (ps ++ qs) ↔ labAll kvs ps ∧ labAll kvs qs := by
  unfold labAll
  rw [List.all_append, Bool.and_eq_true]
/-- where a text leads -/
def mp (kvs : List (Option Key × V)) (z : Str) : Str := (strO (atN kvs z)).getD z
theorem mp_of {kvs : List (Option Key × V)} {z u : Str} (h : atN kvs z = some (.str u)) : mp kvs z = u := by
  unfold mp
  rw [h]
  rfl
theorem labAll.at_ {kvs : List (Option Key × V)} {ps : List Str} (h : labAll kvs ps) {z : Str} (m : z ∈ ps) : atN kvs z = some (.str (mp kvs z)) ∧ isLab (mp kvs z) = true := by
  obtain ⟨u, e, hu, _⟩ := labO_str (List.all_eq_true.mp h z m)
  rw [mp_of e]
  exact ⟨e, hu⟩
theorem led_map {kvs : List (Option Key × V)} : ∀ {ps : List Str}, labAll kvs ps → ledOf kvs ps = ps.map (mp kvs)
  | [], _ => rfl
  | z :: ps, h => by
    have h1 := (h.at_ (z := z) (.head _)).1
    have ih := led_map (ps := ps) (h.sub fun y m => .tail _ m)
    have e2 : strO (atN kvs z) = some (mp kvs z) := by rw [h1]; rfl
    unfold ledOf at *
    rw [List.filterMap_cons, e2, ih]
    rfl
/-- a deed, years renamed -/
def mapD (f : Str → Str) : List Str → List Str
  | [] => []
  | z :: ps => z :: ps.map f
abbrev mapY (f : Str → Str) (ys : List (List (List Str))) : List (List (List Str)) := ys.map fun y => y.map (mapD f)
theorem mem_deedP {ys : List (List (List Str))} {y : List (List Str)} {d : List Str} {z : Str} (hy : y ∈ ys) (hd : d ∈ y) (hz : z ∈ d.tail) : z ∈ allP ys := List.mem_flatMap.mpr ⟨y, hy, List.mem_flatMap.mpr ⟨d, hd, hz⟩⟩
theorem mapD_eq {f g : Str → Str} {d : List Str} (h : ∀ z ∈ d.tail, f z = g z) : mapD f d = mapD g d := by
  cases d with
  | nil => rfl
  | cons z ps => exact congrArg (z :: ·) (List.map_congr_left h)
theorem mapY_eq {f g : Str → Str} {ys : List (List (List Str))} (h : ∀ z ∈ allP ys, f z = g z) : mapY f ys = mapY g ys :=
  List.map_congr_left fun _ hy => List.map_congr_left fun _ hd => mapD_eq fun z hz => h z (mem_deedP hy hd hz)
theorem mapD_mapD (f g : Str → Str) (d : List Str) : mapD g (mapD f d) = mapD (fun z => g (f z)) d := by
  cases d with
  | nil => rfl
  | cons z ps => simp [mapD]
theorem mapY_mapY (f g : Str → Str) (ys : List (List (List Str))) : mapY g (mapY f ys) = mapY (fun z => g (f z)) ys := by
  unfold mapY
  rw [List.map_map]
  refine List.map_congr_left fun y _ => ?_
  show (y.map (mapD f)).map (mapD g) = _
  rw [List.map_map]
  exact List.map_congr_left fun d _ => mapD_mapD f g d
theorem mapY_id {f : Str → Str} {ys : List (List (List Str))} (h : ∀ z ∈ allP ys, f z = z) : mapY f ys = ys := by
  have e : mapY f ys = mapY (fun z => z) ys := mapY_eq h
  rw [e]
  have d1 : ∀ d : List Str, mapD (fun z => z) d = d := fun d => by cases d with
    | nil => rfl
    | cons z ps => simp [mapD]
  have d2 : ∀ y : List (List Str), y.map (mapD fun z => z) = y := fun y => (List.map_congr_left fun d _ => d1 d).trans (List.map_id' y)
  exact (List.map_congr_left fun y _ => d2 y).trans (List.map_id' ys)
theorem led_mapD {kvs : List (Option Key × V)} {d : List Str} (h : labAll kvs d.tail) : ledD kvs d = mapD (mp kvs) d := by
  cases d with
  | nil => rfl
  | cons z ps => exact congrArg (z :: ·) (led_map h)
theorem led_mapY {kvs : List (Option Key × V)} {ys : List (List (List Str))} (h : labAll kvs (allP ys)) : ledY kvs ys = mapY (mp kvs) ys :=
  List.map_congr_left fun _ hy => List.map_congr_left fun _ hd => led_mapD (h.sub fun _ hz => mem_deedP hy hd hz)
theorem allP_map (f : Str → Str) (ys : List (List (List Str))) : allP (mapY f ys) = (allP ys).map f := by
  have h1 : ∀ d : List Str, deedP (mapD f d) = (deedP d).map f := fun d => by cases d <;> rfl
  have h2 : ∀ y : List (List Str), yearP (y.map (mapD f)) = (yearP y).map f := fun y => by
    induction y with
    | nil => rfl
    | cons d y ih =>
      show deedP (mapD f d) ++ yearP (y.map (mapD f)) = (deedP d ++ yearP y).map f
      rw [h1, ih, List.map_append]
  induction ys with
  | nil => rfl
  | cons y ys ih =>
    show yearP (y.map (mapD f)) ++ allP (mapY f ys) = (yearP y ++ allP ys).map f
    rw [h2, ih, List.map_append]
theorem addAll_has : ∀ {zs acc : List Str} {z : Str}, z ∈ addAll acc zs ↔ z ∈ acc ∨ z ∈ zs
  | [], acc, z => by simp [addAll]
  | y :: zs, acc, z => by
    have e : addAll acc (y :: zs) = addAll (add1 acc y) zs := rfl
    rw [e, addAll_has (zs := zs)]
    unfold add1
    split
    · rename_i h
      constructor
      · rintro (h1 | h1)
        · exact .inl h1
        · exact .inr (.tail _ h1)
      · rintro (h1 | h1)
        · exact .inl h1
        · rcases List.mem_cons.mp h1 with e | h1
          · rw [e]; exact .inl h
          · exact .inr h1
    · simp [or_assoc]
theorem addAll_nd : ∀ {zs acc : List Str}, acc.Nodup → (addAll acc zs).Nodup
  | [], acc, h => h
  | y :: zs, acc, h => by
    have e : addAll acc (y :: zs) = addAll (add1 acc y) zs := rfl
    rw [e]
    refine addAll_nd ?_
    unfold add1
    split
    · exact h
    · rename_i n
      refine List.nodup_append.mpr ⟨h, List.nodup_cons.mpr ⟨(fun z => nomatch z), List.nodup_nil⟩, fun a ha b hb => ?_⟩
      rw [List.mem_singleton.mp hb]
      exact fun z => n (z ▸ ha)
theorem addAll_map {f : Str → Str} : ∀ {zs acc : List Str}, (∀ x ∈ acc ++ zs, ∀ y ∈ acc ++ zs, f x = f y → x = y) → addAll (acc.map f) (zs.map f) = (addAll acc zs).map f
  | [], acc, _ => rfl
  | y :: zs, acc, h => by
    have e1 : addAll acc (y :: zs) = addAll (add1 acc y) zs := rfl
    have e2 : addAll (acc.map f) ((y :: zs).map f) = addAll (add1 (acc.map f) (f y)) (zs.map f) := rfl
    have e3 : add1 (acc.map f) (f y) = (add1 acc y).map f := by
      unfold add1
      by_cases m : y ∈ acc
      · rw [if_pos m, if_pos (List.mem_map_of_mem m)]
      · rw [if_neg m, if_neg fun z => ?_, List.map_append]
        · rfl
        · obtain ⟨x, hx, ex⟩ := List.mem_map.mp z
          have := h x (List.mem_append_left _ hx) y (List.mem_append_right _ (.head _)) ex
          exact m (this ▸ hx)
    rw [e1, e2, e3]
    refine addAll_map fun a ha b hb => ?_
    have sub : ∀ x ∈ add1 acc y ++ zs, x ∈ acc ++ y :: zs := fun x hx => by
      rcases List.mem_append.mp hx with hx | hx
      · unfold add1 at hx
        split at hx
        · exact List.mem_append_left _ hx
        · rcases List.mem_append.mp hx with hx | hx
          · exact List.mem_append_left _ hx
          · rw [List.mem_singleton.mp hx]; exact List.mem_append_right _ (.head _)
      · exact List.mem_append_right _ (.tail _ hx)
    exact h a (sub a ha) b (sub b hb)
/-- one to one on these -/
def InjOn (f : Str → Str) (ps : List Str) : Prop := ∀ x ∈ ps, ∀ y ∈ ps, f x = f y → x = y
theorem pers_map {f : Str → Str} {ys : List (List (List Str))} (h : InjOn f (allP ys)) : persOf (mapY f ys) = (persOf ys).map f := by
  unfold persOf
  rw [allP_map]
  exact addAll_map (acc := []) fun x hx y hy e => h x (by simpa using hx) y (by simpa using hy) e
theorem pers_mem {ys : List (List (List Str))} {z : Str} : z ∈ persOf ys ↔ z ∈ allP ys := by
  unfold persOf
  rw [addAll_has]
  simp
theorem add_len : ∀ (zs acc : List Str), acc.Nodup → ((addAll acc zs).length = acc.length + zs.length ↔ (acc ++ zs).Nodup)
  | [], acc, h => by simp [addAll, h]
  | y :: zs, acc, h => by
    have e : addAll acc (y :: zs) = addAll (add1 acc y) zs := rfl
    have nd : (add1 acc y).Nodup := addAll_nd (zs := [y]) h
    have ih := add_len zs (add1 acc y) nd
    by_cases m : y ∈ acc
    · have e3 : add1 acc y = acc := if_pos m
      rw [e, e3]
      have l := addAll_len zs acc
      constructor
      · intro z
        rw [List.length_cons] at z
        omega
      · intro z
        exact absurd rfl ((List.nodup_append.mp z).2.2 y m y (.head _))
    · have e3 : add1 acc y = acc ++ [y] := if_neg m
      rw [e, e3]
      rw [e3] at ih
      rw [List.length_append] at ih
      simp only [List.length_cons, List.length_nil] at ih ⊢
      rw [List.append_assoc] at ih
      rw [show acc.length + (zs.length + 1) = acc.length + (0 + 1) + zs.length by omega]
      exact ih
/-- what is wrong with a map, in the other way -/
theorem mdue_none {kvs : List (Option Key × V)} {ps : List Str} : mapDue (some kvs) ps = none ↔ labAll kvs ps ∧ (ledOf kvs ps).Nodup := by
  have key : (addAll [] (ledOf kvs ps)).length = (ledOf kvs ps).length ↔ (ledOf kvs ps).Nodup := by
    have := add_len (ledOf kvs ps) [] List.nodup_nil
    simpa using this
  have le := addAll_len (ledOf kvs ps) []
  constructor
  · intro h
    obtain ⟨kvs', e, al, n⟩ := mapDue_none h
    cases e
    have ll := (led_len al).1
    refine ⟨al, key.mp ?_⟩
    simp only [List.length_nil] at le
    omega
  · rintro ⟨al, nd⟩
    have ll := (led_len al).1
    have h1 : ps.all (fun z => (atN kvs z).isSome) = true := List.all_eq_true.mpr fun z m => by rw [(labAll.at_ al m).1]; rfl
    have h2 := key.mpr nd
    show (if ps.all (fun z => (atN kvs z).isSome) = true then (if ps.all (fun z => labO (atN kvs z)) = true then (if (addAll [] (ledOf kvs ps)).length < ps.length then some (Str.ofString "merged") else none) else some (Str.ofString "label")) else some (Str.ofString "person")) = none
    rw [if_pos h1, if_pos (show ps.all (fun z => labO (atN kvs z)) = true from al), if_neg (by omega)]
theorem nd_map {f : Str → Str} {ps : List Str} (nd : ps.Nodup) (h : InjOn f ps) : (ps.map f).Nodup := by
  induction ps with
  | nil => exact List.nodup_nil
  | cons z ps ih =>
    rw [List.nodup_cons] at nd
    rw [List.map_cons, List.nodup_cons]
    refine ⟨fun m => ?_, ih nd.2 fun x hx y hy => h x (.tail _ hx) y (.tail _ hy)⟩
    obtain ⟨x, hx, e⟩ := List.mem_map.mp m
    exact nd.1 ((h x (.tail _ hx) z (.head _) e) ▸ hx)
theorem map_good {kvs : List (Option Key × V)} {ps : List Str} (al : labAll kvs ps) (nd : ps.Nodup) (h : InjOn (mp kvs) ps) : mapDue (some kvs) ps = none := by
  rw [mdue_none, led_map al]
  exact ⟨al, nd_map nd h⟩
theorem pers_nd (ys : List (List (List Str))) : (persOf ys).Nodup := addAll_nd List.nodup_nil
/-! a dict of pairs of texts -/
abbrev nmK (ps us : List Str) : List (Key × V) := (ps.zip us).map fun q => (Sum.inr q.1, .str q.2)
theorem nm_at : ∀ {ps us : List Str} {i : Nat} {z u : Str}, ps.Nodup → ps[i]? = some z → us[i]? = some u → atN (sk (nmK ps us)) z = some (.str u)
  | [], _, _, _, _, _, e, _ => by cases e
  | _ :: _, [], _, _, _, _, _, e => by cases e
  | p :: ps, v :: us, 0, z, u, _, e1, e2 => by
    cases e1
    cases e2
    exact valV_pos rfl
  | p :: ps, v :: us, i + 1, z, u, nd, e1, e2 => by
    rw [List.nodup_cons] at nd
    have ne : ¬ (some (Sum.inr p) : Option Key) = some (Sum.inr z) := fun h => by
      have : p = z := Sum.inr.inj (Option.some.inj h)
      exact nd.1 (this ▸ List.mem_of_getElem? e1)
    exact (valV_neg ne).trans (nm_at (ps := ps) (us := us) (i := i) nd.2 e1 e2)
theorem nm_lab {ps us : List Str} (l : us.length = ps.length) (nd : ps.Nodup) (hu : ∀ u ∈ us, isLab u = true) : labAll (sk (nmK ps us)) ps := List.all_eq_true.mpr fun z m => by
  obtain ⟨i, hi⟩ := List.mem_iff_getElem?.mp m
  have lt : i < us.length := by rw [l]; exact (List.getElem?_eq_some_iff.mp hi).1
  rw [nm_at nd hi (List.getElem?_eq_getElem lt)]
  exact hu _ (List.getElem_mem lt)
theorem nm_mp {ps us : List Str} {i : Nat} {z u : Str} (nd : ps.Nodup) (h1 : ps[i]? = some z) (h2 : us[i]? = some u) : mp (sk (nmK ps us)) z = u := mp_of (nm_at nd h1 h2)
theorem nm_inj {ps us : List Str} (l : us.length = ps.length) (nd : ps.Nodup) (ud : us.Nodup) : InjOn (mp (sk (nmK ps us))) ps := fun x hx y hy e => by
  obtain ⟨i, hi⟩ := List.mem_iff_getElem?.mp hx
  obtain ⟨j, hj⟩ := List.mem_iff_getElem?.mp hy
  have li : i < us.length := by rw [l]; exact (List.getElem?_eq_some_iff.mp hi).1
  have lj : j < us.length := by rw [l]; exact (List.getElem?_eq_some_iff.mp hj).1
  rw [nm_mp nd hi (List.getElem?_eq_getElem li), nm_mp nd hj (List.getElem?_eq_getElem lj)] at e
  have ij : i = j := (List.getElem_inj ud).mp e
  subst ij
  rw [hi] at hj
  exact Option.some.inj hj
theorem nm_back {ps us : List Str} (l : us.length = ps.length) (nd : ps.Nodup) (ud : us.Nodup) {z : Str} (m : z ∈ ps) : mp (sk (nmK us ps)) (mp (sk (nmK ps us)) z) = z := by
  obtain ⟨i, hi⟩ := List.mem_iff_getElem?.mp m
  have li : i < us.length := by rw [l]; exact (List.getElem?_eq_some_iff.mp hi).1
  rw [nm_mp nd hi (List.getElem?_eq_getElem li), nm_mp ud (List.getElem?_eq_getElem li) hi]
theorem InjOn.sub {f : Str → Str} {ps qs : List Str} (h : InjOn f ps) (s : ∀ z ∈ qs, z ∈ ps) : InjOn f qs := fun x hx y hy => h x (s x hx) y (s y hy)
end Kx

set_option maxHeartbeats 8000000
namespace Kx
open PySem L2
/-! years led along a renaming -/
theorem sl_tupK {X : Cx} {K : PySem.W.Frag} (h : X.K = K) : SlR X (rSlT K) := by
  subst h
  exact sl_tup
theorem pa_starK {X : Cx} {K : PySem.W.Frag} (h : X.K = K) {e : Expr} {es : List Expr} {te : TE} {t : TA} {p : Pos} (he : PE X e te) (hr : PA X es t) (hs : starEach (.Starred e p :: es) X.env = (true, eval e X.env) :: starEach es X.env := by rfl) : PA X (.Starred e p :: es) (StX.tStar K te t) := by
  subst h
  exact StX.pa_star he hr hs
/-- the comprehension of what persons lead to -/
theorem lc_led {P : Program} {w : World} {K : PySem.W.Frag} {a b : Addr} {kvs : List (Option Key × V)} {ps : List Str} {i : Nat} {te : TE} {vs : List Nat} {σ : L2.St} {H1 : Hp} {Qd : Addr → Hp → Prop} (ha : MapAt P w H1 a kvs) (hb : IsSeq K H1 b (ps.map V.str)) (lz : ps.length ≤ 2000000) (al : labAll kvs ps)
    (step : ∀ (z u : Str) (H : Hp) (k : V → Hp → Prop), MapAt P w H a kvs → valV kvs (some (Sum.inr z)) = some (.str u) → k (.str u) H → gName i (.str z) (wipe σ vs) H fun σ2 H2 => wipe σ2 vs = wipe σ vs ∧ te σ2 H2 k)
    (after : ∀ D H, H1 D = none → Same H1 H → H D = some (.lst ((ledOf kvs ps).map V.str)) → Qd D H) : LcB K b (gName i) tYes te vs σ H1 Qd := by
  obtain ⟨ll, lg⟩ := led_len al
  refine lc_pure (g := gName i) (fun j y H' => ∀ z, (ledOf kvs ps)[j]? = some z → y = V.str z) (fun j y H' H'' q s => q) hb (Same.refl _) (by rw [List.length_map]; exact lz) ?_ ?_ fun x σ H Q Q' q z => q _ _ z
  · rintro D j x H k hj hD s ⟨acc, hacc⟩ kk
    rw [List.getElem?_map] at hj
    obtain ⟨z, hz, rfl⟩ := Option.map_eq_some_iff.mp hj
    obtain ⟨u, eu, el, _⟩ := lg j z hz
    refine step z u H k (ha.keep s) eu (kk _ _ (Same.refl _) fun z' e => ?_)
    rw [el] at e
    cases e
    rfl
  · intro D ys H hD s hd ly g
    rw [List.length_map] at ly
    have ey : ys = (ledOf kvs ps).map V.str := by
      refine List.ext_getElem? fun i => ?_
      rw [List.getElem?_map]
      cases e : (ledOf kvs ps)[i]? with
      | none =>
        have h1 := List.getElem?_eq_none_iff.mp e
        exact List.getElem?_eq_none_iff.mpr (by omega)
      | some z =>
        have h1 := (List.getElem?_eq_some_iff.mp e).1
        have h2 : i < ys.length := by omega
        rw [List.getElem?_eq_getElem h2, g i _ (List.getElem?_eq_getElem h2) z e]
        rfl
    subst ey
    exact after D H hD s hd
def spRenYear (P : Program) (w : World) : Sp := fun vs H Q _ => ∃ (x : V) (a : Addr) (kvs : List (Option Key × V)) (y : List (List Str)), vs = [x, .ref a] ∧ Ds .tup H x y ∧ MapAt P w H a kvs ∧ (∀ d ∈ y, d ≠ []) ∧ labAll kvs (yearP y) ∧ y.length ≤ 1000 ∧ (∀ d ∈ y, d.length ≤ 1000) ∧ ∀ t H', Same H H' → Ds .tup H' (.ref t) (ledDs kvs y) → Q (.ref t) H'
section
variable {P : Program} {w : World} {K : PySem.W.Frag} {mg : Str → Option Value} {base : Heap}
abbrev nRenY : List Str := ["year", "names", "deed", "person"]
theorem scRenY : FnScope nRenY ["year", "names"] (defScope sRenamedYear) := ⟨rfl, rfl, rfl, by decide +kernel, rfl, by decide +kernel, by decide +kernel⟩
abbrev scDeed5 : Scope := { kind := ScopeKind.function, names := [(Str.ofString ".0", NameKind.local), (Str.ofString "deed", NameKind.local), (Str.ofString "names", NameKind.cell)], isGenerator := false, isCoroutine := false }
theorem ok_renyear {f : Addr} {fd : FuncData} (F : Fun K "_renamed_year" "_renamed_year" sRenamedYear f fd) (m : mg "_renamed_year" = some (.ref f)) (B : Bm mg) : HasF P w K mg base "_renamed_year" 1 ["year", "names"] (spRenYear P w) := by
  refine ⟨f, fd, ?_, m, F.kp, F.binds fun _ _ _ _ _ _ us hl => match us, hl with | [_, _], _ => rfl⟩
  refine F.ok scRenY (fun vs H Q E h => ?_) (fun cdv A outer s H vs Q E hr h => ?_)
  · obtain ⟨a, b, c, d, rfl, _⟩ := h
    rfl
  · obtain ⟨x, a, kvs, y, rfl, hy, ha, ne, al, n1, n2, k⟩ := h
    refine ⟨_, pss_one (ps_ret (pe_callTy call_tuple_of (by rfl) B.tuple (by decide +kernel) (pa_cons (pe_lc (own := [("deed", 2)]) (g := gName 2) (tt := tYes) (by rfl) scRenY.nd (pi_seq (pv 0)) (blkOk_by (own := [("deed", 2)]) (N := nRenY) (sc := defScope sRenamedYear) (by decide +kernel)) (fun _ _ _ _ _ => pg_name (i := 2) scRenY.nd rfl (Or.inl rfl)) (fun _ _ _ _ _ => pts_nil)
      (fun _ _ _ _ _ => (pe_tup (pa_cons (pe_ix (ix_seqK (K := K) rfl) (pv 2) pe_int (fun _ _ => rfl)) (pa_starK (K := K) rfl (pe_lc (own := [("person", 3)]) (g := gName 3) (tt := tYes) (by rfl) scRenY.nd (pi_seqK (K := K) rfl (pe_slice (sl_tupK (K := K) rfl) (pv 2) (po_some pe_int) po_none)) (blkOk_by (own := [("person", 3)]) (N := nRenY) (sc := scDeed5) (by decide +kernel)) (fun _ _ _ _ _ => pg_name (i := 3) scRenY.nd rfl (Or.inl rfl)) (fun _ _ _ _ _ => pts_nil)
        (fun _ _ _ _ _ => (pe_mget (P := P) (w := w) rfl rfl (pv 1) (pv 3) (fun _ _ => rfl)))) pa_nil))))) pa_nil))), ?_⟩
    obtain ⟨b, xs, rfl, hb, px⟩ := hy
    have lx := Paired.length px
    refine ⟨_, rfl, b, rfl, lc_pure (g := gName 2) (fun j v H' => ∀ d, y[j]? = some d → Ss .tup H' v (ledD kvs d)) (fun j v H' H'' q s d e => (q d e).keep s) (IsSeq.tup hb) (Same.refl _) (by omega) ?_ ?_ fun x σ H Q Q' q z => q _ _ z⟩
    · rintro D i x H3 k' hi hD s3 ⟨acc, hacc⟩ kk
      obtain ⟨d, hd, db, rfl, hdb⟩ := pr_get px hi
      have md := List.mem_of_getElem? hd
      have hdb3 := s3 _ _ hdb
      obtain ⟨z0, ps, rfl⟩ : ∃ z0 ps, d = z0 :: ps := by
        cases d with
        | nil => exact absurd rfl (ne [] md)
        | cons z ps => exact ⟨z, ps, rfl⟩
      have alp : labAll kvs ps := al.sub fun z m => List.mem_flatMap.mpr ⟨_, md, m⟩
      have lp : (z0 :: ps).length ≤ 1000 := n2 _ md
      rw [List.length_cons] at lp
      refine ⟨rfl, _, rfl, .inr (.inl ⟨_, _, _, _, rfl, rfl, SqT.of hdb3, at0 _ _, ?_⟩)⟩
      refine ⟨_, rfl, _, rfl, db, _, rfl, SqT.of hdb3, whole _ _, fun q hq => ?_⟩
      have s4 : Same H3 (upd H3 q (.tup (cutV ((z0 :: ps).map V.str) (some 1) none))) := sameUpd (Same.refl _) hq
      have ecut : cutV ((z0 :: ps).map V.str) (some 1) none = ps.map V.str := by rw [List.map_cons, cut1]
      rw [ecut] at s4 ⊢
      refine ⟨q, rfl, lc_led (P := P) (w := w) (K := K) (i := 3) (ha.keep (s3.trans s4)) (IsSeq.tup upd_same) (by omega) alp (fun z u H5 k5 hm ev kq => ⟨rfl, _, rfl, _, rfl, a, kvs, z, _, rfl, rfl, hm, ev, kq⟩) fun D2 H5 hD2 s5 hd5 => ?_⟩
      have s6 := s4.trans s5
      have ll : (ledOf kvs ps).length = ps.length := (led_len alp).1
      refine ⟨D2, _, rfl, .inr (SqL.of hd5), line2 (by simp [ll]; omega), fun t ht => ?_⟩
      refine kk _ _ (sameUpd s6 ht) fun d' e => ?_
      rw [hd] at e
      cases e
      refine ⟨t, rfl, wo_at ?_ (ne_of_none (s6 _ _ hacc) ht).symm⟩
      rw [upd_same, List.append_nil]
      rfl
    · intro D zs H3 hD s3 hd3 lz3 g3
      refine ⟨D, zs, rfl, .inl ⟨SqL.of hd3, fun l hl => ?_⟩⟩
      refine k l _ (sameUpd s3 hl) ⟨l, zs, rfl, upd_same, pr_of (by rw [List.length_map]; omega) fun j v d e1 e2 => ?_⟩
      rw [List.getElem?_map] at e2
      obtain ⟨d0, hd0, rfl⟩ := Option.map_eq_some_iff.mp e2
      exact (g3 j v e1 d0 hd0).keep (wo_same.trans (sameUpd (Same.refl _) hl))
end
end Kx

set_option maxHeartbeats 8000000
namespace Kx
open PySem L2
/-! History.renamed -/
structure YB (ys : List (List (List Str))) : Prop where
  n : ys.length ≤ 8
  m : ∀ y ∈ ys, y.length ≤ 4 ∧ ∀ d ∈ y, 1 ≤ d.length ∧ d.length ≤ 3 ∧ ∀ z ∈ d, isLab z = true
theorem YB.ne {ys : List (List (List Str))} (b : YB ys) : ∀ y ∈ ys, ∀ d ∈ y, d ≠ [] := fun y hy d hd e => by
  have := ((b.m y hy).2 d hd).1
  rw [e] at this
  cases this
theorem YB.pers {ys : List (List (List Str))} (b : YB ys) : (allP ys).length ≤ 64 := by
  have h1 : ∀ y ∈ ys, (yearP y).length ≤ 8 := fun y hy => by
    have h2 : (yearP y).length ≤ y.length * 2 := fm_bound fun d hd => by
      have := ((b.m y hy).2 d hd).2.1
      show d.tail.length ≤ 2
      rw [List.length_tail]
      omega
    have := (b.m y hy).1
    omega
  have h3 : (allP ys).length ≤ ys.length * 8 := fm_bound h1
  have := b.n
  omega
theorem persLen {ys : List (List (List Str))} : (persOf ys).length ≤ (allP ys).length := by
  have := addAll_len (allP ys) []
  simp only [List.length_nil] at this
  unfold persOf
  omega
theorem Ss.woL {H : Hp} {x : V} {zs : List Str} {D : Addr} {acc : List V} (h : Ss .tup H x zs) (hD : H D = some (.lst acc)) : Ss .tup (Kx.wo D H) x zs := by
  obtain ⟨d, e, h⟩ := h
  exact ⟨d, e, wo_at h (fun z => by rw [z, hD] at h; cases h)⟩
theorem Ds.woL {H : Hp} {x : V} {y : List (List Str)} {D : Addr} {acc : List V} (h : Ds .tup H x y) (hD : H D = some (.lst acc)) : Ds .tup (Kx.wo D H) x y := by
  obtain ⟨d, xs, e, h, px⟩ := h
  exact ⟨d, xs, e, wo_at h (fun z => by rw [z, hD] at h; cases h), pr_imp px fun _ _ q => q.woL hD⟩
def spHRen (P : Program) (w : World) (C CK CM : Addr) : Sp := fun vs H Q E => ∃ (p : Addr) (x : V) (no : Option (List (Option Key × V))) (ks : List (Str × Int)) (ys : List (List (List Str))), vs = [.ref p, x] ∧ HistAt C CK H p ks ys ∧ kbOk ks ∧ YB ys ∧ NamesIs P w H x no ∧
  match mapDue no (persOf ys) with
  | some w' => ∀ d H', H d = none → Same H H' → H' d = some (.xd (whatF w')) → E (.ref CM) (some d) H'
  | none => ∀ q kvs H', no = some kvs → labAll kvs (allP ys) → H q = none → Same H H' → HistAt C CK H' q ks (ledY kvs ys) → Q (.ref q) H'
section
variable {P : Program} {w : World} {K : PySem.W.Frag} {mg : Str → Option Value} {base : Heap}
abbrev nHRen : List Str := ["self", "names", "word", "year"]
theorem scHRen : FnScope nHRen ["self", "names"] (defScope sHistory_renamed) := ⟨rfl, rfl, rfl, by decide +kernel, rfl, by decide +kernel, by decide +kernel⟩
theorem ok_hrenamed {f C CK CM fB gP pP : Addr} {fd fdB fdP : FuncData} (F : Fun K "renamed" "History.renamed" sHistory_renamed f fd) (HX : HC K C) (B : Bm mg) (MF : HasF P w K mg base "map_fault" 2 ["names", "persons"] (spMapFault P w K)) (PP : PropOf K C "persons" pP gP) (GP : FnOk P w K mg base CX0 1 gP fdP ["self"] (spPersons1 C CK)) (bP : Binds K fdP ["self"] [])
    (RY : HasF P w K mg base "_renamed_year" 1 ["year", "names"] (spRenYear P w)) (HO : HasF P w K mg base "history_of" 6 ["kinds", "years"] (spHistOf C CK)) (EB : ErC P w K mg base "BadMap" ["self", "what"] CM fB fdB (spInit1 K CM "what")) (n1 : PySem.W.findIn K (.ref CM) "what" = some none) :
    FnOk P w K mg base (L2.CX P w) 7 f fd ["self", "names"] (spHRen P w C CK CM) := by
  obtain ⟨f1, fd1, MF⟩ := MF; obtain ⟨f2, fd2, RY⟩ := RY; obtain ⟨f3, fd3, HO⟩ := HO
  refine F.okX scHRen (fun vs H Q E h => ?_) (fun cdv A outer s H vs Q E hr h => ?_)
  · obtain ⟨p, x, no, ks, ys, rfl, _⟩ := h
    rfl
  · obtain ⟨p, x, no, ks, ys, rfl, hp, kb, yb, hx, k⟩ := h
    have hr1 : Room 1 _ := hr.mono (by decide)
    have hr2 : Room 2 _ := hr.mono (by decide)
    refine ⟨_, (pss_cons (ps_set (i := 2) scHRen.nd rfl (Or.inl rfl) (pe_call MF.G hr2 (by rfl) MF.m MF.kp MF.b .nil pass0 (pa_cons (pv 1) (pa_cons (pe_prop (pv 0) HX.cl PP GP hr2 bP .nil pass0 (by rfl)) pa_nil))))
    (pss_cons (ps_if (pt_cmpR op_notN (pv 2) pe_non (nomark _)) (pss_one (ps_raise rfl (takes_of rfl rfl rfl rfl) (pmk_oex EB.T EB.iC EB.tI EB.G hr2 EB.b .nil pass0 (by rfl) EB.gC (pa_cons (pv 2) pa_nil)))) pss_nil)
    (pss_one (ps_ret (pe_call HO.G hr (by rfl) HO.m HO.kp HO.b .nil pass0 (pa_cons (pe_fld (pv 0) rfl) (pa_cons (pe_callTy call_tuple_of (by rfl) B.tuple (by decide +kernel) (pa_cons (pe_lc (own := [("year", 3)]) (g := gName 3) (tt := tYes) (by rfl) scHRen.nd (pi_seq (pe_fld (pv 0) rfl)) (blkOk_by (own := [("year", 3)]) (N := nHRen) (sc := defScope sHistory_renamed) (by decide +kernel)) (fun _ _ _ _ _ => pg_name (i := 3) scHRen.nd rfl (Or.inl rfl)) (fun _ _ _ _ _ => pts_nil)
        (fun _ _ _ _ _ => (pe_call RY.G hr1 (by rfl) RY.m RY.kp RY.b .nil pass0 (pa_cons (pv 3) (pa_cons (pv 1) pa_nil))))) pa_nil)) pa_nil))))))), ?_⟩
    obtain ⟨dx, fs, kp, yt, h1, h2, h3, h4, h5, h6⟩ := hp.ob
    refine ⟨_, rfl, _, rfl, p, dx, _, rfl, h1, p, ks, ys, rfl, hp, yb.ne, Nat.le_trans yb.pers (by decide), fun q H1 s1 hq0 hq => ?_⟩
    refine ⟨x, no, q, persOf ys, rfl, hx.keep s1, .tup hq, Nat.le_trans persLen (Nat.le_trans yb.pers (by decide)), fun H2 s2 => ?_⟩
    have s02 := s1.trans s2
    cases e : mapDue no (persOf ys) with
    | some w' =>
      rw [e] at k
      refine ⟨_, rfl, rfl, _, rfl, iteT ⟨_, rfl, fin1 EB.T n1 fun d H3 hd s3 e3 => k d H3 (s02.free hd) (s02.trans s3) e3⟩⟩
    | none =>
      rw [e] at k
      obtain ⟨kvs, rfl, al, _⟩ := mapDue_none e
      have alP : labAll kvs (allP ys) := labAll.sub (ps := persOf ys) al fun z m => pers_mem.mpr m
      cases hx with
      | dct ha t =>
      rename_i a
      refine ⟨_, rfl, rfl, _, rfl, iteF ?_⟩
      obtain ⟨b, xs, eb, hb, px⟩ := h6
      cases eb
      have lx := Paired.length px
      have n8 := yb.n
      refine ⟨_, rfl, p, C, dx, fs, _, rfl, s02 _ _ h1, HX.cl, HX.nK, h2, _, rfl, p, C, dx, fs, _, rfl, s02 _ _ h1, HX.cl, HX.nY, h3, _, rfl, lc_pure (g := gName 3) (fun j v H' => ∀ d, ys[j]? = some d → Ds .tup H' v (ledDs kvs d)) (fun j v H' H'' q s d e => (q d e).keep s) (IsSeq.tup (s02 _ _ hb)) (Same.refl _) (by omega) ?_ ?_ fun x σ H Q Q' q z => q _ _ z⟩
      · rintro D i x H3 k' hi hD s3 ⟨acc, hacc⟩ kk
        obtain ⟨y, hy, py⟩ := pr_get px hi
        have my := List.mem_of_getElem? hy
        have s03 := s02.trans s3
        refine ⟨rfl, _, rfl, _, rfl, x, a, kvs, y, rfl, py.keep s03, ha.keep s03, yb.ne y my, alP.sub fun z m => List.mem_flatMap.mpr ⟨y, my, m⟩, ?_, fun d hd => ?_, fun t H4 s4 ht => kk _ _ s4 fun d' e => ?_⟩
        · have := (yb.m y my).1; omega
        · have := ((yb.m y my).2 d hd).2.1; omega
        · rw [hy] at e
          cases e
          exact ht.woL (s4 _ _ hacc)
      · intro D zs H3 hD s3 hd3 lz3 g3
        refine ⟨D, zs, rfl, .inl ⟨SqL.of hd3, fun l hl => ?_⟩⟩
        have s5 := sameUpd (o := .tup zs) s3 hl
        have s05 := s02.trans s5
        refine ⟨kp, l, ks, ledY kvs ys, rfl, h5.keep s05, kb, ⟨l, zs, rfl, upd_same, pr_of (by rw [List.length_map]; omega) fun j v d e1 e2 => ?_⟩, fun q' H6 hq' s6 hh => k q' kvs H6 rfl alP (s05.free hq') (s05.trans s6) hh⟩
        rw [List.getElem?_map] at e2
        obtain ⟨d0, hd0, rfl⟩ := Option.map_eq_some_iff.mp e2
        exact (g3 j v e1 d0 hd0).keep (wo_same.trans (sameUpd (Same.refl _) hl))
end
end Kx

set_option maxHeartbeats 8000000
namespace Kx
open PySem L2
/-! _law_tried -/
/-- what is known of an own error that is caught -/
structure ErY (K : PySem.W.Frag) (mg : Str → Option Value) (x : Str) (CB : Addr) : Prop where
  m : mg x = some (.ref CB)
  XB : XfC K CB
  n1 : PySem.W.findIn K (.ref CB) "what" = some none
  tB : PySem.W.exmOne K (.ref CB) (.ref CB) = some true
theorem pe_ex {X : Cx} {α : Type} {e : Expr} {t : α → TE} (h : ∀ k, PE X e (t k)) : PE X e (fun σ H Q => ∃ k, t k σ H Q) := ⟨fun pins s σ H Q I ⟨k, q⟩ => (h k).run pins s σ H Q I q⟩
theorem pe_or {X : Cx} {e : Expr} {t u : TE} (h : PE X e t) (g : PE X e u) : PE X e (fun σ H Q => t σ H Q ∨ u σ H Q) := ⟨fun pins s σ H Q I q => q.elim (h.run pins s σ H Q I) (g.run pins s σ H Q I)⟩
def spTried (P : Program) (w : World) (C CK CS : Addr) : Sp := fun vs H Q _ =>
  (∃ (p : Addr) (x : V) (no : Option (List (Option Key × V))) (ks : List (Str × Int)) (ys : List (List (List Str))), vs = [.ref p, x] ∧ HistAt C CK H p ks ys ∧ kbOk ks ∧ YB ys ∧ NamesIs P w H x no ∧
    match mapDue no (persOf ys) with
    | some w' => ∀ H', Same H H' → Q (.str w') H'
    | none => ∀ q kvs H', no = some kvs → labAll kvs (allP ys) → H q = none → Same H H' → HistAt C CK H' q ks (ledY kvs ys) → Q (.ref q) H') ∨
  (∃ (p : Addr) (x : V) (no : Option (List (Option Key × V))) (r : Str) (ss : List (Option Str)) (cs : List (Int × Bool)), vs = [.ref p, x] ∧ StandAt CS H p r ss cs ∧ NamesIs P w H x no ∧
    match mapDue no (sitOf ss) with
    | some w' => ∀ H', Same H H' → Q (.str w') H'
    | none => ∀ q kvs H', no = some kvs → Same H H' → StandAt CS H' q r (ss.map (renO kvs)) cs → Q (.ref q) H')
section
variable {P : Program} {w : World} {K : PySem.W.Frag} {mg : Str → Option Value} {base : Heap}
theorem scLTried : FnScope ["_law_thing", "_law_told", "e"] ["_law_thing", "_law_told"] (defScope sLTried) := ⟨rfl, rfl, rfl, by decide +kernel, rfl, by decide +kernel, by decide +kernel⟩
theorem ok_ltried {f C CK CS CM gH gS : Addr} {fd fdH fdS : FuncData} (F : Fun K "_law_tried" "_law_tried" sLTried f fd) (m : mg "_law_tried" = some (.ref f)) (HX : HC K C) (SX : SC K CS) (MH : Meth K C "renamed" gH) (GH : FnOk P w K mg base (L2.CX P w) 7 gH fdH ["self", "names"] (spHRen P w C CK CM)) (bH : Binds K fdH ["self", "names"] [])
    (MS : Meth K CS "renamed" gS) (GS : FnOk P w K mg base (L2.CX P w) 6 gS fdS ["self", "names"] (spRenamed P w CS CM)) (bS : Binds K fdS ["self", "names"] []) (X : ErY K mg "BadMap" CM) :
    HasF P w K mg base "_law_tried" 8 ["_law_thing", "_law_told"] (spTried P w C CK CS) := by
  refine ⟨f, fd, ?_, m, F.kp, F.binds fun _ _ _ _ _ _ us hl => match us, hl with | [_, _], _ => rfl⟩
  refine F.ok scLTried (fun vs H Q E h => ?_) (fun cdv A outer s H vs Q E hr h => ?_)
  · rcases h with ⟨a, b, c, d, e, rfl, _⟩ | ⟨a, b, c, d, e, g, rfl, _⟩
    · rfl
    · rfl
  · have hr6 : Room 6 _ := hr.mono (by decide)
    refine ⟨_, pss_one (ps_try_as (i := 2) (Wout := fun _ _ _ _ => False) rfl rfl scLTried.nd rfl rfl ⟨rfl, by decide, .inl X.m⟩ takes0
        (fun W pn xe tk _ => pss_one (ps_ret (pe_or (pe_methW (pv 0) HX.cl MH GH hr bH (fun σ => passAt tk σ) (pa_cons (pv 1) pa_nil)) (pe_methW (pv 0) SX.cl MS GS hr6 bS (fun σ => passAt tk σ) (pa_cons (pv 1) pa_nil)))))
        (fun a oe cls d pn hz hf => pss_one (ps_ret (pe_xf X.XB X.n1 hz hf (pv 2))))), ?_⟩
    rcases h with ⟨p, x, no, ks, ys, rfl, hp, kb, yb, hx, k⟩ | ⟨p, x, no, r, ss, cs, rfl, hp, hx, k⟩
    · obtain ⟨dx, fs, kp, yt, h1, h2, h3, h4, h5, h6⟩ := hp.ob
      refine .inl ⟨_, rfl, p, dx, _, rfl, h1, h4 _ (by decide +kernel) (by decide +kernel), _, rfl, p, x, no, ks, ys, rfl, hp, kb, yb, hx, ?_⟩
      cases e : mapDue no (persOf ys) with
      | none =>
        rw [e] at k
        exact fun q kvs H' e1 al hq s st => k q kvs H' e1 al hq s st
      | some w' =>
        rw [e] at k
        refine fun d H' hd s ed => ⟨true, X.tB, fun _ a' ha' => ?_, fun q => nomatch q⟩
        exact ⟨_, rfl, rfl, rfl, d, _, .str w', rfl, ed, rfl, k H' s⟩
    · obtain ⟨dx, sa, ca, xs, h1, h2, h3, h4⟩ := hp.ob
      refine .inr ⟨_, rfl, p, dx, _, rfl, h1, sFs_no _ _ _ (by decide +kernel) (by decide +kernel) (by decide +kernel), _, rfl, p, x, no, r, ss, cs, rfl, hp, hx, ?_⟩
      cases e : mapDue no (sitOf ss) with
      | none =>
        rw [e] at k
        exact fun q kvs H' e1 s st => k q kvs H' e1 s st
      | some w' =>
        rw [e] at k
        refine fun d H' hd s ed => ⟨true, X.tB, fun _ a' ha' => ?_, fun q => nomatch q⟩
        exact ⟨_, rfl, rfl, rfl, d, _, .str w', rfl, ed, rfl, k H' s⟩
end
end Kx

set_option maxHeartbeats 8000000
namespace Kx
open PySem L2
/-! _law_named -/
theorem all_flat (zs : List Str) : (zs.map V.str).all flatV = true := by
  refine List.all_eq_true.mpr fun z hz => ?_
  obtain ⟨u, _, rfl⟩ := List.mem_map.mp hz
  rfl
def spNamed : Sp := fun vs H Q _ => ∃ (x : V) (ys : List (List (List Str))), vs = [x] ∧ Ys .tup H x ys ∧ YB ys ∧ ∀ b H', H b = none → Same H H' → H' b = some (.lst ((persOf ys).map V.str)) → Q (.ref b) H'
section
variable {P : Program} {w : World} {K : PySem.W.Frag} {mg : Str → Option Value} {base : Heap}
abbrev nNamed : List Str := ["_law_years", "_law_named_here", "_law_year", "_law_deed", "_law_person"]
theorem scNamed : FnScope nNamed ["_law_years"] (defScope sLNamed) := ⟨rfl, rfl, rfl, by decide +kernel, rfl, by decide +kernel, by decide +kernel⟩
theorem ok_named {f : Addr} {fd : FuncData} (F : Fun K "_law_named" "_law_named" sLNamed f fd) (m : mg "_law_named" = some (.ref f)) : HasF P w K mg base "_law_named" 1 ["_law_years"] spNamed := by
  refine ⟨f, fd, ?_, m, F.kp, F.binds fun _ _ _ _ _ _ us hl => match us, hl with | [_], _ => rfl⟩
  refine F.ok scNamed (fun vs H Q E h => ?_) (fun cdv A outer s H vs Q E hr h => ?_)
  · obtain ⟨a, b, rfl, _⟩ := h
    rfl
  · obtain ⟨x, ys, rfl, hy, yb, k⟩ := h
    obtain ⟨yt, xs, rfl, h6, h7⟩ := hy
    have lx := Paired.length h7
    refine ⟨_, (pss_cons (ps_set (i := 1) scNamed.nd rfl (Or.inl rfl) (pe_lst pa_nil))
    (pss_cons (ps_for PassesOwn.never rfl (pi_tup (pv 0)) (pg_name (i := 2) scNamed.nd rfl (.inl rfl))
        (pss_one (ps_for PassesOwn.never rfl (pi_tup (pv 2)) (pg_name (i := 3) scNamed.nd rfl (.inl rfl))
          (pss_one (ps_for PassesOwn.never rfl (pi_tup (pe_slice sl_tup (pv 3) (po_some pe_int) po_none)) (pg_name (i := 4) scNamed.nd rfl (.inl rfl))
            (pss_one (ps_if (pt_cmpR op_notIn_seq (pv 4) (pv 1) (by rfl)) (pss_one (ps_expr (pe_bm PySem.F.plainAttrs_list PySem.F.slot_list_append PySem.F.type_list_append mt_append (pv 1) (pa_cons (pv 4) pa_nil)))) pss_nil)))))))
    (pss_one (ps_ret (pv 1))))), ?_⟩
    refine ⟨Nat.zero_le _, fun f hf => ?_⟩
    have s0 : Same H (upd H f (.lst [])) := sameUpd (Same.refl _) hf
    have pl := yb.pers
    refine ⟨_, rfl, yt, rfl, ⟨_, SqT.of (s0 _ _ h6)⟩, for_tup (K := K) (a := yt) (xs := xs) (fun i σ H2 => ∃ v2 v3 v4 : Option V, σ = [some (.ref yt), some (.ref f), v2, v3, v4] ∧ Same H H2 ∧ H2 f = some (.lst ((addAll [] ((ys.take i).flatMap yearP)).map V.str)))
      ⟨none, none, none, rfl, s0, upd_same⟩ (fun i σ H2 _ ⟨_, _, _, _, s, _⟩ => SqT.of (s _ _ h6)) ?_ ?_⟩
    · rintro i x σ H2 hi ⟨v2, v3, v4, rfl, s2, hd2⟩
      obtain ⟨ds, hds, b, zs, rfl, hb, pz⟩ := pr_get h7 hi
      have memy : ds ∈ ys := List.mem_of_getElem? hds
      refine ⟨_, rfl, b, rfl, ⟨_, SqT.of (s2 _ _ hb)⟩, for_tup (K := K) (a := b) (xs := zs) (fun j σ H3 => ∃ v3 v4 : Option V, σ = [some (.ref yt), some (.ref f), some (.ref b), v3, v4] ∧ Same H H3 ∧ H3 f = some (.lst ((addAll [] ((ys.take i).flatMap yearP ++ (ds.take j).flatMap deedP)).map V.str)))
        ⟨v3, v4, rfl, s2, by simpa using hd2⟩ (fun j σ H3 _ ⟨_, _, _, s, _⟩ => SqT.of (s _ _ hb)) ?_ ?_⟩
      · rintro j x σ H3 hj ⟨v3, v4, rfl, s3, hd3⟩
        obtain ⟨d, hd, c, rfl, hc⟩ := pr_get pz hj
        obtain ⟨z0, zr, rfl⟩ : ∃ z0 zr, d = z0 :: zr := by
          cases d with
          | nil => exact absurd rfl (yb.ne ds memy [] (List.mem_of_getElem? hd))
          | cons z0 zr => exact ⟨z0, zr, rfl⟩
        refine ⟨_, rfl, _, rfl, c, _, rfl, SqT.of (s3 _ _ hc), whole _ _, fun q hq => ?_⟩
        have s4 : Same H (upd H3 q (.tup (cutV ((z0 :: zr).map V.str) (some 1) none))) := sameUpd s3 hq
        have qf : q ≠ f := (ne_of_none hd3 hq).symm
        have ecut : cutV ((z0 :: zr).map V.str) (some 1) none = zr.map V.str := by rw [List.map_cons, cut1]
        refine ⟨q, rfl, ⟨_, SqT.of upd_same⟩, for_tup (K := K) (a := q) (xs := cutV ((z0 :: zr).map V.str) (some 1) none) (fun m σ H4 => ∃ v4 : Option V, σ = [some (.ref yt), some (.ref f), some (.ref b), some (.ref c), v4] ∧ Same H H4 ∧ H4 q = some (.tup (cutV ((z0 :: zr).map V.str) (some 1) none)) ∧ H4 f = some (.lst ((addAll [] ((ys.take i).flatMap yearP ++ (ds.take j).flatMap deedP ++ zr.take m)).map V.str)))
          ⟨v4, rfl, s4, upd_same, by rw [upd_ne qf.symm]; simpa using hd3⟩ (fun m σ H4 _ ⟨_, _, _, h, _⟩ => SqT.of h) ?_ ?_⟩
        · rintro m x σ H4 hm ⟨v4, rfl, s5, hq5, hd5⟩
          rw [ecut, List.getElem?_map] at hm
          obtain ⟨z, hz, rfl⟩ : ∃ z, zr[m]? = some z ∧ x = V.str z := by
            cases e : zr[m]? with
            | none => rw [e] at hm; cases hm
            | some z => rw [e] at hm; exact ⟨z, rfl, (Option.some.inj hm).symm⟩
          have bound : (addAll [] ((ys.take i).flatMap yearP ++ (ds.take j).flatMap deedP ++ zr.take m)).length ≤ 900 := by
            have b1 := addAll_len ((ys.take i).flatMap yearP ++ (ds.take j).flatMap deedP ++ zr.take m) []
            have b2 := fm_pre (f := yearP) hds
            have b3 : ((ds.take j).flatMap deedP ++ deedP (z0 :: zr)).length ≤ (yearP ds).length := fm_pre (f := deedP) hd
            have b4 : (deedP (z0 :: zr)).length = zr.length := rfl
            have b5 : (allP ys).length = (ys.flatMap yearP).length := rfl
            simp only [List.length_append, List.length_take, List.length_nil] at b1 b2 b3 ⊢
            omega
          refine ⟨_, rfl, _, rfl, f, _, rfl, .inl (SqL.of hd5), rfl, all_flat _, _, rfl, ?_⟩
          rw [inV_strs, take_succ_of hz, ← List.append_assoc, addAll_one]
          by_cases mem : z ∈ addAll [] ((ys.take i).flatMap yearP ++ (ds.take j).flatMap deedP ++ zr.take m)
          · rw [decide_eq_true mem, show add1 _ z = _ from if_pos mem]
            exact iteF ⟨_, rfl, s5, hq5, hd5⟩
          · rw [decide_eq_false mem, show add1 _ z = _ from if_neg mem]
            refine iteT ⟨_, rfl, .inl ⟨rfl, _, SqL.of hd5⟩, _, rfl, f, _, _, rfl, rfl, hd5, small1000 (by rw [List.length_map]; omega), some (.str z), rfl, fun c' o e => ?_, ?_, ?_⟩
            · rw [upd_ne (ne_of_none e hf)]
              exact s5 c' o e
            · rw [upd_ne qf]
              exact hq5
            · rw [upd_same, List.map_append]
              rfl
        · rintro σ H4 ⟨v4, rfl, s5, _, hd5⟩
          refine ⟨_, _, rfl, s5, ?_⟩
          rw [ecut, List.length_map, List.take_length, List.append_assoc] at hd5
          rw [hd5, fm_take hd]
          rfl
      · rintro σ H3 ⟨v3, v4, rfl, s3, hd3⟩
        refine ⟨_, _, _, rfl, s3, ?_⟩
        rw [hd3, Paired.length pz, List.take_length, fm_take hds]
        rfl
    · rintro σ H2 ⟨v2, v3, v4, rfl, s2, hd2⟩
      rw [lx, List.take_length] at hd2
      exact ⟨_, rfl, k f _ hf s2 hd2⟩
end
end Kx

set_option maxHeartbeats 8000000
namespace Kx
open PySem L2
/-! _law_names -/
theorem uz_at : ∀ n : Fin 6, (Str.ofString "uvwxyz").cps.toList[n.1]? = some (117 + n.1) := by decide +kernel
theorem low1 {c : Nat} (h : 97 ≤ c) (h' : c ≤ 122) : Low ⟨#[c]⟩ := fun x hx => by
  have e : x = c := by simpa using hx
  omega
def sq6 (k : Nat) : Nat := ([115, 116, 110, 111, 112, 113] : List Nat).getD k 0
theorem st_at : ∀ n : Fin 6, (Str.ofString "stnopq").cps.toList[n.1]? = some (sq6 n.1) := by decide +kernel
theorem uz_ix {i : Nat} (h : i < 6) : atI (Str.ofString "uvwxyz").cps.toList (i : Nat) = some (117 + i) := atI_nat (uz_at ⟨i, h⟩)
theorem st_ix {i : Nat} (h : i < 6) : atI (Str.ofString "stnopq").cps.toList (i : Nat) = some (sq6 i) := atI_nat (st_at ⟨i, h⟩)
theorem sq6_low : ∀ n : Fin 6, 97 ≤ sq6 n.1 ∧ sq6 n.1 < 117 := by decide
theorem sq6_inj : ∀ n m : Fin 6, sq6 n.1 = sq6 m.1 → n = m := by decide
/-- the last sign of the new name of the k-th -/
def lastN (way turn : Int) (k : Nat) : Nat := if way = 1 ∨ (k : Int) < turn then 117 + k else sq6 k
theorem lastN_inj {way turn : Int} {i j : Nat} (hi : i < 6) (hj : j < 6) (h : lastN way turn i = lastN way turn j) : i = j := by
  have a := sq6_low ⟨i, hi⟩
  have b := sq6_low ⟨j, hj⟩
  have c : sq6 i = sq6 j → i = j := fun e => congrArg Fin.val (sq6_inj ⟨i, hi⟩ ⟨j, hj⟩ e)
  simp only at a b
  unfold lastN at h
  split at h <;> split at h
  · omega
  · omega
  · omega
  · exact c h
theorem nm_put {ps us : List Str} {i : Nat} {z u : Str} (nd : ps.Nodup) (hz : ps[i]? = some z) (l : us.length = i) : putK (nmK (ps.take i) us) (Sum.inr z : Key) (.str u) = nmK (ps.take (i + 1)) (us ++ [u]) := by
  have lt : i < ps.length := (List.getElem?_eq_some_iff.mp hz).1
  have ni : z ∉ ps.take i := fun m => by
    obtain ⟨j, hj⟩ := List.mem_iff_getElem?.mp m
    have lj : j < i := by
      have := (List.getElem?_eq_some_iff.mp hj).1
      rw [List.length_take] at this
      omega
    rw [List.getElem?_take_of_lt lj] at hj
    have e1 := (List.getElem?_eq_some_iff.mp hj)
    have e2 := (List.getElem?_eq_some_iff.mp hz)
    obtain ⟨a1, a2⟩ := e1
    obtain ⟨b1, b2⟩ := e2
    have := (List.getElem_inj nd).mp (a2.trans b2.symm)
    omega
  have no : ((nmK (ps.take i) us).any fun kv => decide (kv.1 = (Sum.inr z : Key))) = false := by
    rw [List.any_eq_false]
    rintro kv m e
    obtain ⟨⟨a, b⟩, m', rfl⟩ := List.mem_map.mp m
    have e : (Sum.inr a : Key) = Sum.inr z := of_decide_eq_true e
    have := List.of_mem_zip m'
    rw [Sum.inr.inj e] at this
    exact ni this.1
  unfold putK
  rw [if_neg (by rw [no]; exact Bool.false_ne_true)]
  have e : ps.take (i + 1) = ps.take i ++ [z] := by rw [List.take_add_one, hz]; rfl
  rw [e]
  unfold nmK
  rw [List.zip_append (by rw [List.length_take]; omega), List.map_append]
  rfl
/-- what the new names have -/
def NmOk (ps : List Str) (way turn : Int) (us : List Str) : Prop := (∀ u ∈ us, isLab u = true) ∧ (way = 0 → ∀ (j : Nat) (u : Str), us[j]? = some u → ps[(j + turn.toNat) % ps.length]? = some u) ∧ (way ≠ 0 → ∀ (j : Nat) (u : Str), us[j]? = some u → lastOf u = some (lastN way turn j))
theorem NmOk.add {ps us : List Str} {way turn : Int} {u : Str} (h : NmOk ps way turn us) (hu : isLab u = true) (h0 : way = 0 → ps[(us.length + turn.toNat) % ps.length]? = some u) (h1 : way ≠ 0 → lastOf u = some (lastN way turn us.length)) : NmOk ps way turn (us ++ [u]) := by
  have cs : ∀ {F : Nat → Str → Prop}, (∀ (j : Nat) (u' : Str), us[j]? = some u' → F j u') → F us.length u → ∀ (j : Nat) (u' : Str), (us ++ [u])[j]? = some u' → F j u' := fun {F} a b j u' e => by
    by_cases lt : j < us.length
    · rw [List.getElem?_append_left lt] at e
      exact a j u' e
    · have ej : j = us.length := by
        have := (List.getElem?_eq_some_iff.mp e).1
        simp at this
        omega
      subst ej
      rw [List.getElem?_append_right (Nat.le_refl _), Nat.sub_self] at e
      cases e
      exact b
  exact ⟨fun x m => (List.mem_append.mp m).elim (h.1 x) fun e => by rw [List.mem_singleton.mp e]; exact hu, fun w => cs (h.2.1 w) (h0 w), fun w => cs (h.2.2 w) (h1 w)⟩
theorem NmOk.nd {ps us : List Str} {way turn : Int} (h : NmOk ps way turn us) (l : us.length = ps.length) (l6 : ps.length ≤ 6) (nd : ps.Nodup) : us.Nodup := by
  refine List.pairwise_iff_getElem.mpr fun i j li lj ij e => ?_
  have ei : us[i]? = some us[i] := List.getElem?_eq_getElem li
  have ej : us[j]? = some us[i] := by rw [e]; exact List.getElem?_eq_getElem lj
  by_cases w : way = 0
  · have a := h.2.1 w i _ ei
    have b := h.2.1 w j _ ej
    obtain ⟨a1, a2⟩ := List.getElem?_eq_some_iff.mp a
    obtain ⟨b1, b2⟩ := List.getElem?_eq_some_iff.mp b
    have := (List.getElem_inj nd).mp (a2.trans b2.symm)
    have hi : i < ps.length := by omega
    have hj : j < ps.length := by omega
    have e3 : (i + turn.toNat) % ps.length = (j + turn.toNat) % ps.length := this
    have e4 : ((j + turn.toNat) - (i + turn.toNat)) % ps.length = 0 := Nat.sub_mod_eq_zero_of_mod_eq e3.symm
    have e5 : (j + turn.toNat) - (i + turn.toNat) = j - i := by omega
    rw [e5, Nat.mod_eq_of_lt (by omega)] at e4
    omega
  · have a := h.2.2 w i _ ei
    have b := h.2.2 w j _ ej
    rw [a] at b
    have := lastN_inj (by omega) (by omega) (Option.some.inj b)
    omega
def spNames (K : PySem.W.Frag) : Sp := fun vs H Q _ => ∃ (p q b : Addr) (ps : List Str), vs = [.ref p, .ref b] ∧ HandAt H p q ∧ IsSeq K (wo p H) b (ps.map V.str) ∧ ps ≠ [] ∧ ps.length ≤ 6 ∧ (∀ z ∈ ps, isLab z = true) ∧ ps.Nodup ∧
  ∀ n us H', H n = none → wo p H' n = some (.dK (nmK ps us)) → us.length = ps.length → us.Nodup → (∀ u ∈ us, isLab u = true) → HandAt H' p q → Keep H H' p → Q (.ref n) H'
section
variable {P : Program} {w : World} {K : PySem.W.Frag} {mg : Str → Option Value} {base : Heap}
abbrev nNames : List Str := ["_law_hand_here", "_law_persons_here", "_law_names_here", "_law_turn", "_law_way", "_law_k", "_law_person"]
theorem scNames : FnScope nNames ["_law_hand_here", "_law_persons_here"] (defScope sLNames) := ⟨rfl, rfl, rfl, by decide +kernel, rfl, by decide +kernel, by decide +kernel⟩
theorem ok_names {f : Addr} {fd : FuncData} (F : Fun K "_law_names" "_law_names" sLNames f fd) (m : mg "_law_names" = some (.ref f)) (T : Bl mg) (D : HasF P w K mg base "_law_draw" 2 ["_law_hand_here", "_law_many"] spDraw) (W : HasF P w K mg base "_law_word" 3 ["_law_hand_here", "_law_most"] spWord) : HasF P w K mg base "_law_names" 4 ["_law_hand_here", "_law_persons_here"] (spNames K) := by
  refine ⟨f, fd, ?_, m, F.kp, F.binds fun _ _ _ _ _ _ us hl => match us, hl with | [_, _], _ => rfl⟩
  obtain ⟨f1, fd1, D⟩ := D; obtain ⟨f2, fd2, W⟩ := W
  refine F.ok scNames (fun vs H Q E h => ?_) (fun cdv A outer s H vs Q E hr h => ?_)
  · obtain ⟨a, b, c, d, rfl, _⟩ := h
    rfl
  · obtain ⟨p, q, b, ps, rfl, hp, hb, ne, l6, lab, nd, k⟩ := h
    have hr2 : Room 2 _ := hr.mono (by decide)
    have hu := hu_of hr
    refine ⟨_, (pss_cons (ps_set (i := 2) scNames.nd rfl (Or.inl rfl) pe_dnewK)
    (pss_cons (ps_set (i := 3) scNames.nd rfl (Or.inl rfl) (pe_call D.G hr2 (by rfl) D.m D.kp D.b .nil pass0 (pa_cons (pv 0) (pa_cons (pe_op op_add (pe_callB call_len_seq (by rfl) T.len PySem.boot_len (pa_cons (pv 1) pa_nil)) pe_int) pa_nil))))
    (pss_cons (ps_set (i := 4) scNames.nd rfl (Or.inl rfl) (pe_call D.G hr2 (by rfl) D.m D.kp D.b .nil pass0 (pa_cons (pv 0) (pa_cons pe_int pa_nil))))
    (C8.pss_cut (ps_for PassesOwn.never rfl (pi_enumB (by rfl) T.enumerate (pa_cons (pv 1) pa_nil)) (pg_tup rfl (pgs_cons (pg_name (i := 5) scNames.nd rfl (.inl rfl)) (pgs_cons (pg_name (i := 6) scNames.nd rfl (.inl rfl)) pgs_nil)))
        (pss_one (ps_if (pt_cmpR op_eq (pv 4) pe_int (nomark _)) (pss_one (ps_dput hu (pv 2) (pv 6) (pe_ix ix_seq (pv 1) (pe_op op_mod (pe_callTy call_int1 (by rfl) T.int (by decide +kernel) (pa_cons (pe_op op_add (pv 5) (pv 3)) pa_nil)) (pe_callB call_len_seq (by rfl) T.len PySem.boot_len (pa_cons (pv 1) pa_nil))) (fun _ _ => rfl)) rfl))
          (pss_one (ps_if (PW.pt (pw_or (pt_cmpR op_eq (pv 4) pe_int (nomark _)) (pw_or1 (pt_cmpR op_lt (pv 5) (pv 3) (nomark _))))) (pss_one (ps_dput hu (pv 2) (pv 6) (pe_op op_add_str (pe_call W.G hr (by rfl) W.m W.kp W.b .nil pass0 (pa_cons (pv 0) (pa_cons pe_int pa_nil))) (pe_ix ix_str pe_str (pv 5) (fun _ _ => rfl))) rfl))
            (pss_one (ps_dput hu (pv 2) (pv 6) (pe_op op_add_str pe_str (pe_ix ix_str pe_str (pv 5) (fun _ _ => rfl))) rfl)))))))
    (pss_one (ps_ret (pv 2))))))), ?_⟩
    refine fun n hn0 => ?_
    have np := hp.ap hn0
    have nq := hp.aq hn0
    have s0 : Same (wo p H) (wo p (upd H n (.dK []))) := wo_keep (keepUpd Keep.refl hn0)
    have hb0 : IsSeq K (upd H n (.dK [])) b (ps.map V.str) := (hb.keep s0).keep wo_same
    refine ⟨_, rfl, _, rfl, b, _, rfl, hb0.sq, _, _, rfl, rfl, ?_⟩
    have pos : 0 < ps.length := List.length_pos_iff.mpr ne
    refine ⟨p, q, _, rfl, hp.upd np nq, (by rw [List.length_map]; omega), (by rw [List.length_map]; have : (((ps.length : Nat) : Int) + 1).natAbs ≤ 7 := by omega
                                                                              exact Nat.lt_of_le_of_lt this (by decide)), fun turn H1 t0 t1 hp1 k1 => ?_⟩
    refine ⟨_, rfl, p, q, 3, rfl, hp1, by decide, by decide, fun way H2 w0 w1 hp2 k2 => ?_⟩
    have k02 : Keep H H2 p := (keepUpd Keep.refl hn0).trans (k1.trans k2)
    have hn2 : H2 n = some (.dK []) := (k1.trans k2) n _ upd_same np
    refine ⟨fun σ H3 => ∃ (v5 v6 : Option V) (us : List Str), σ = [some (.ref p), some (.ref b), some (.ref n), some (.int turn), some (.int way), v5, v6] ∧ us.length = ps.length ∧ H3 n = some (.dK (nmK ps us)) ∧ NmOk ps way turn us ∧ HandAt H3 p q ∧ Keep H H3 p, ?_, ?_⟩
    · have st : (∀ H', Same (wo p H) H' → SqL K H' b (ps.map V.str)) ∨ (∀ H', Same (wo p H) H' → SqT K H' b (ps.map V.str)) := hb.both
      refine ⟨_, rfl, b, ps.map V.str, rfl, for_enumB (K := K) (a := b) (xs := ps.map V.str) (fun i σ H3 => ∃ (v5 v6 : Option V) (us : List Str), σ = [some (.ref p), some (.ref b), some (.ref n), some (.int turn), some (.int way), v5, v6] ∧ us.length = i ∧ H3 n = some (.dK (nmK (ps.take i) us)) ∧ NmOk ps way turn us ∧ HandAt H3 p q ∧ Keep H H3 p)
        ⟨none, none, [], rfl, rfl, hn2, ⟨(fun u m => nomatch m), (fun _ j u e => by cases e), (fun _ j u e => by cases e)⟩, hp2, k02⟩
        (st.imp (fun f i σ H3 ⟨_, _, _, _, _, _, _, _, k3⟩ => f H3 ((wo_keep k3).trans wo_same)) (fun f i σ H3 ⟨_, _, _, _, _, _, _, _, k3⟩ => f H3 ((wo_keep k3).trans wo_same))) ?_ ?_⟩
      · rintro i x σ H3 t hi ⟨v5, v6, us, rfl, lu, hn3, ok, hp3, k3⟩ ht
        rw [List.getElem?_map] at hi
        obtain ⟨z, hz, rfl⟩ := Option.map_eq_some_iff.mp hi
        have lt : i < ps.length := (List.getElem?_eq_some_iff.mp hz).1
        have i6 : i < 6 := by omega
        have tp := hp3.ap ht
        have tq := hp3.aq ht
        have tn : t ≠ n := (ne_of_none hn3 ht).symm
        have hp4 : HandAt (upd H3 t (.tup [.int (i : Nat), .str z])) p q := hp3.upd tp tq
        have k4 : Keep H (upd H3 t (.tup [.int (i : Nat), .str z])) p := k3.trans (keepUpd Keep.refl ht)
        have hn4 : upd H3 t (.tup [.int (i : Nat), .str z]) n = some (.dK (nmK (ps.take i) us)) := by rw [upd_ne tn.symm]; exact hn3
        have few : (nmK (ps.take i) us).length < sizeLine := line2 (by simp; omega)
        have sq : SqL K (upd H3 t (.tup [.int (i : Nat), .str z])) b (ps.map V.str) ∨ SqT K (upd H3 t (.tup [.int (i : Nat), .str z])) b (ps.map V.str) := st.imp (fun f => f _ ((wo_keep k4).trans wo_same)) (fun f => f _ ((wo_keep k4).trans wo_same))
        have put : ∀ {H5 : Hp} {u : Str}, H5 n = some (.dK (nmK (ps.take i) us)) → HandAt H5 p q → Keep H H5 p → isLab u = true → (way = 0 → ps[(us.length + turn.toNat) % ps.length]? = some u) → (way ≠ 0 → lastOf u = some (lastN way turn us.length)) →
            ∃ (v5 v6 : Option V) (us' : List Str), [some (.ref p), some (.ref b), some (.ref n), some (.int turn), some (.int way), some (V.int (i : Nat)), some (V.str z)] = [some (.ref p), some (.ref b), some (.ref n), some (.int turn), some (.int way), v5, v6] ∧ us'.length = i + 1 ∧ upd H5 n (.dK (putK (nmK (ps.take i) us) (Sum.inr z : Key) (.str u))) n = some (.dK (nmK (ps.take (i + 1)) us')) ∧ NmOk ps way turn us' ∧ HandAt (upd H5 n (.dK (putK (nmK (ps.take i) us) (Sum.inr z : Key) (.str u)))) p q ∧ Keep H (upd H5 n (.dK (putK (nmK (ps.take i) us) (Sum.inr z : Key) (.str u)))) p := fun {H5 u} hn5 hp5 k5 hu a0 a1 =>
          ⟨_, _, us ++ [u], rfl, by simp [lu], by rw [upd_same, nm_put nd hz lu], ok.add hu a0 a1, hp5.upd np nq, keepUpd k5 hn0⟩
        refine ⟨t, _, rfl, SqT.of upd_same, rfl, _, _, rfl, _, _, rfl, rfl, ?_⟩
        refine ⟨_, rfl, rfl, _, rfl, ?_⟩
        refine ite2 (fun e => ?_) (fun e => ?_)
        · have w : way = 0 := V.int.inj (of_decide_eq_true e)
          refine ⟨_, rfl, _, rfl, _, rfl, _, _, rfl, rfl, .inl ⟨_, rfl, _, rfl, b, _, rfl, sq, _, _, rfl, rfl, (by rw [List.length_map]; omega), ?_⟩⟩
          have ei : (((i : Nat) : Int) + turn) % ((ps.map V.str).length : Nat) = (((i + turn.toNat) % ps.length : Nat) : Int) := by
            rw [List.length_map]
            have : turn = ((turn.toNat : Nat) : Int) := by omega
            rw [this]
            push_cast
            rfl
          have lm : (i + turn.toNat) % ps.length < ps.length := Nat.mod_lt _ pos
          have lm2 : (i + turn.toNat) % ps.length < (ps.map V.str).length := by rw [List.length_map]; exact lm
          have ea : atI (ps.map V.str) ((((i : Nat) : Int) + turn) % ((ps.map V.str).length : Nat)) = some (.str ps[(i + turn.toNat) % ps.length]) := by
            rw [ei]
            refine atI_nat ?_
            rw [List.getElem?_map, List.getElem?_eq_getElem lm]
            rfl
          have fin := fun (_ : Unit) => put (H5 := upd H3 t (.tup [.int (i : Nat), .str z])) hn4 hp4 k4 (lab _ (List.getElem_mem lm)) (fun _ => by rw [lu]; exact List.getElem?_eq_getElem lm) (fun h => absurd w h)
          have dp := fun (u : V) => DPut.k (k := Sum.inr z) (v := u) hn4 few
          rcases sq with sq | sq
          · exact .inl ⟨_, _, _, _, rfl, rfl, sq, ea, _, rfl, _, rfl, n, _, rfl, dp _, fin ()⟩
          · exact .inr (.inl ⟨_, _, _, _, rfl, rfl, sq, ea, _, rfl, _, rfl, n, _, rfl, dp _, fin ()⟩)
        · have w : way ≠ 0 := fun w => e (decide_eq_true (congrArg V.int w))
          refine ⟨_, rfl, rfl, _, rfl, ?_⟩
          refine ite2 (fun e1 => iteT ?_) (fun e1 => ⟨_, rfl, _, rfl, _, _, rfl, rfl, _, rfl, ite2 (fun e2 => ?_) (fun e2 => ?_)⟩)
          · refine ⟨_, rfl, p, q, 5, rfl, hp4, by decide, by decide, fun y H5 y0 y1 low hp5 k5 => ?_⟩
            have y1 : y.length ≤ 5 := y1
            have len : (y ++ (⟨#[117 + i]⟩ : Str)).length = y.length + 1 := by rw [len_app]; rfl
            have hn5 := k5 n _ hn4 np
            refine ⟨_, rfl, _, _, _, rfl, rfl, by decide, uz_ix i6, _, _, rfl, rfl, (by show y.length + 1 ≤ sizeLine; exact small1000 (by omega)), ?_⟩
            refine ⟨_, rfl, _, rfl, n, _, rfl, DPut.k (k := Sum.inr z) hn5 few, put hn5 hp5 (k4.trans k5) (lab_of (by rw [len]; omega) (by rw [len]; omega) (low.app (low1 (by omega) (by omega)))) (fun h => absurd h w) (fun _ => ?_)⟩
            rw [last_app, lu]
            exact congrArg some (if_pos (.inl (V.int.inj (of_decide_eq_true e1)))).symm
          · refine ⟨_, rfl, p, q, 5, rfl, hp4, by decide, by decide, fun y H5 y0 y1 low hp5 k5 => ?_⟩
            have y1 : y.length ≤ 5 := y1
            have len : (y ++ (⟨#[117 + i]⟩ : Str)).length = y.length + 1 := by rw [len_app]; rfl
            have hn5 := k5 n _ hn4 np
            refine ⟨_, rfl, _, _, _, rfl, rfl, by decide, uz_ix i6, _, _, rfl, rfl, (by show y.length + 1 ≤ sizeLine; exact small1000 (by omega)), ?_⟩
            refine ⟨_, rfl, _, rfl, n, _, rfl, DPut.k (k := Sum.inr z) hn5 few, put hn5 hp5 (k4.trans k5) (lab_of (by rw [len]; omega) (by rw [len]; omega) (low.app (low1 (by omega) (by omega)))) (fun h => absurd h w) (fun _ => ?_)⟩
            rw [last_app, lu]
            exact congrArg some (if_pos (.inr (of_decide_eq_true e2))).symm
          · have hs := sq6_low ⟨i, i6⟩
            simp only at hs
            refine ⟨_, rfl, _, _, _, rfl, rfl, by decide, st_ix i6, _, _, rfl, rfl, (by show 1 + 1 ≤ sizeLine; decide), ?_⟩
            refine ⟨_, rfl, _, rfl, n, _, rfl, DPut.k (k := Sum.inr z) hn4 few, put hn4 hp4 k4 (lab_of (z := Str.ofString "b" ++ (⟨#[sq6 i]⟩ : Str)) (by rw [len_app]; exact Nat.le_add_left _ _) (by rw [len_app]; show (Str.ofString "b").length + 1 ≤ 6; decide) (Low.app (a := Str.ofString "b") (by unfold Low; decide) (low1 hs.1 (by omega)))) (fun h => absurd h w) (fun _ => ?_)⟩
            rw [last_app, lu]
            refine congrArg some (if_neg (fun h => ?_)).symm
            rcases h with h | h
            · exact e1 (decide_eq_true (congrArg V.int h))
            · exact e2 (decide_eq_true h)
      · rintro σ H3 ⟨v5, v6, us, rfl, lu, hn3, ok, hp3, k3⟩
        rw [List.length_map] at lu hn3
        rw [List.take_length] at hn3
        exact ⟨v5, v6, us, rfl, lu, hn3, ok, hp3, k3⟩
    rintro σ H3 ⟨v5, v6, us, rfl, lu, hn3, ok, hp3, k3⟩
    exact ⟨_, rfl, k n us H3 hn0 (wo_at hn3 np) lu (ok.nd lu l6 nd) ok.1 hp3 k3⟩
end
end Kx

set_option maxHeartbeats 8000000
namespace Kx
open PySem L2
/-! a dict that is filled while things are drawn -/
theorem HandAt.atq {H : Hp} {p q : Addr} (h : HandAt H p q) : ∃ o, H q = some o := by
  obtain ⟨cs, a, b, c, h1, h2⟩ := h
  exact ⟨_, h2⟩
theorem ne_new {H : Hp} {a b : Addr} (h : H a = none) (h' : ∃ o, H b = some o) : a ≠ b := fun e => by
  obtain ⟨o, h'⟩ := h'
  rw [e, h'] at h
  cases h
theorem put_len {κ : Type} [DecidableEq κ] {kvs : List (κ × V)} {k : κ} {v : V} : (putK kvs k v).length ≤ kvs.length + 1 := by
  unfold putK
  split
  · rw [List.length_map]; omega
  · simp
theorem put_all {F : Key × V → Prop} {kvs : List (Key × V)} {k : Key} {v : V} (h : ∀ kv ∈ kvs, F kv) (hv : F (k, v)) : ∀ kv ∈ putK kvs k v, F kv := by
  unfold putK
  split
  · intro kv m
    obtain ⟨kv', m', rfl⟩ := List.mem_map.mp m
    split
    · rename_i e
      rw [e]
      exact hv
    · exact h kv' m'
  · intro kv m
    rcases List.mem_append.mp m with m | m
    · exact h kv m
    · rw [List.mem_singleton.mp m]; exact hv
/-- a key and a value that are shown -/
def FV (H : Hp) (kv : Key × V) : Prop := FineKo (some kv.1) ∧ ∃ d, Dd H 1 kv.2 d
theorem FV.keep {H H' : Hp} {kv : Key × V} (h : FV H kv) (s : Same H H') : FV H' kv := ⟨h.1, h.2.imp fun _ q => q.keep s⟩
theorem fv_dp {H : Hp} : ∀ {kvs : List (Key × V)}, (∀ kv ∈ kvs, FV H kv) → ∃ ds, DP H (sk kvs) ds
  | [], _ => ⟨[], .nil⟩
  | kv :: kvs, h => by
    obtain ⟨ds, hd⟩ := fv_dp (kvs := kvs) fun x m => h x (.tail _ m)
    obtain ⟨f, d, q⟩ := h kv (.head _)
    exact ⟨(encO (some kv.1), d) :: ds, .cons ⟨rfl, f, q⟩ hd⟩
theorem pr_app2 {α β : Type} {F : α → β → Prop} {a c : List α} {b d : List β} (h : Paired F a b) (g : Paired F c d) : Paired F (a ++ c) (b ++ d) := by
  induction h with
  | nil => exact g
  | cons h t ih => exact .cons h ih
structure Dc (n p q : Addr) (kvs : List (Key × V)) (m : Nat) (H0 H : Hp) : Prop where
  dn : H n = some (.dK kvs)
  n0 : H0 n = none
  hp : HandAt H p q
  hp0 : HandAt H0 p q
  kp : Keep H0 H p
  vals : ∀ kv ∈ kvs, FV (hn n H0 H) kv
  len : kvs.length ≤ m
section
variable {n p q : Addr} {kvs : List (Key × V)} {m : Nat} {H0 H : Hp}
theorem Dc.fresh (d : Dc n p q kvs m H0 H) {l : Addr} (hl : H l = none) : H0 l = none ∧ l ≠ n ∧ l ≠ p ∧ l ≠ q := by
  have lp := d.hp.ap hl
  refine ⟨?_, (ne_of_none d.dn hl).symm, lp, d.hp.aq hl⟩
  cases e : H0 l with
  | none => rfl
  | some u => exact absurd hl (by rw [d.kp l u e lp]; exact fun z => nomatch z)
theorem Dc.up (d : Dc n p q kvs m H0 H) {H' : Hp} (k : Keep H H' p) : Same (hn n H0 H) (hn n H0 H') := fun c u e => by
  obtain ⟨h, cn, c0⟩ := hn_get e
  exact hn_at (k c u h (ne_new c0 d.hp0.at_)) cn c0
theorem Dc.draw (d : Dc n p q kvs m H0 H) {H' : Hp} (k : Keep H H' p) (h : HandAt H' p q) : Dc n p q kvs m H0 H' :=
  ⟨k _ _ d.dn (ne_new d.n0 d.hp0.at_), d.n0, h, d.hp0, d.kp.trans k, fun kv m => (d.vals kv m).keep (d.up k), d.len⟩
theorem Dc.new (d : Dc n p q kvs m H0 H) {l : Addr} {o : HO} (hl : H l = none) : Dc n p q kvs m H0 (upd H l o) := by
  obtain ⟨l0, ln, lp, lq⟩ := d.fresh hl
  exact d.draw (keepUpd Keep.refl hl) (d.hp.upd lp lq)
theorem Dc.sub (d : Dc n p q kvs m H0 H) {H' : Hp} : Same (nw H H') (hn n H0 H') := fun c u e => by
  obtain ⟨e0, e1⟩ := nw_get e
  obtain ⟨c0, cn, _, _⟩ := d.fresh e0
  exact hn_at e1 cn c0
theorem Dc.set (d : Dc n p q kvs m H0 H) {kvs' : List (Key × V)} {m' : Nat} (hv : ∀ kv ∈ kvs', FV (hn n H0 H) kv) (l : kvs'.length ≤ m') : Dc n p q kvs' m' H0 (upd H n (.dK kvs')) :=
  ⟨upd_same, d.n0, d.hp.upd (ne_new d.n0 d.hp0.at_) (ne_new d.n0 d.hp0.atq), d.hp0, keepUpd d.kp d.n0, fun kv m => (hv kv m).keep hn_b, l⟩
theorem Dc.put (d : Dc n p q kvs m H0 H) (k : Key) {v : V} (hv : FV (hn n H0 H) (k, v)) : Dc n p q (putK kvs k v) (m + 1) H0 (upd H n (.dK (putK kvs k v))) :=
  d.set (put_all d.vals hv) (Nat.le_trans put_len (Nat.succ_le_succ d.len))
theorem Dc.drop (d : Dc n p q kvs m H0 H) (k : Key) : Dc n p q (dropK kvs k) m H0 (upd H n (.dK (dropK kvs k))) :=
  d.set (fun kv m => d.vals kv (List.mem_filter.mp m).1) (Nat.le_trans (List.length_filter_le _ _) d.len)
theorem Dc.le (d : Dc n p q kvs m H0 H) {m' : Nat} (h : m ≤ m') : Dc n p q kvs m' H0 H := ⟨d.dn, d.n0, d.hp, d.hp0, d.kp, d.vals, Nat.le_trans d.len h⟩
end
/-- over a locked dict's keys -/
theorem for_keys {d : Addr} {o : Obj} {kvs : List (Key × V)} {g : TG} {tb : TS} {D : Ends} {σ : L2.St} {H : Hp} (Pv : Nat → L2.St → Hp → Prop) (h0 : Pv 0 σ H) (hl : ∀ i σ H, Pv i σ H → H d = some (.frz o (.dK kvs)))
    (hs : ∀ i k v σ H, kvs[i]? = some (k, v) → Pv i σ H → g (kV k) σ H fun σ2 H2 => tb { D with nx := Pv (i + 1), ct := Pv (i + 1), bk := D.nx } σ2 H2) (hd : ∀ σ H, Pv kvs.length σ H → D.nx σ H) :
    ∃ W : Nat → Nat → L2.St → Hp → Prop, (∃ m, W 0 m σ H) ∧ ∀ i m σ H, W i m σ H →
      ((Itk d o kvs).stop i H ∧ D.nx σ H) ∨ ((Itk d o kvs).go i H ∧ ∃ N : L2.St → Hp → Prop, (∀ σ' H', N σ' H' → ∃ m', m' < m ∧ W (i + 1) m' σ' H') ∧ ∀ x H', (Itk d o kvs).yld i H x H' → g x σ H' fun σ2 H2 => tb { D with nx := N, ct := N, bk := D.nx } σ2 H2) := by
  refine ⟨fun i m σ H => m + i = kvs.length ∧ Pv i σ H, ⟨kvs.length, by omega, h0⟩, ?_⟩
  rintro i m σ H ⟨e, p⟩
  have q := hl i σ H p
  by_cases lt : i < kvs.length
  · refine .inr ⟨⟨q, lt⟩, Pv (i + 1), fun σ' H' p' => ⟨m - 1, by omega, by omega, p'⟩, fun x H' y => ?_⟩
    obtain ⟨rfl, k, v, ek, rfl⟩ := y
    exact hs i k v σ _ ek p
  · have ei : i = kvs.length := by omega
    subst ei
    exact .inl ⟨⟨q, Nat.le_refl _⟩, hd σ H p⟩
theorem upd_comm {H : Hp} {a b : Addr} {x y : HO} (h : a ≠ b) : upd (upd H a x) b y = upd (upd H b y) a x := by
  funext c
  unfold upd
  by_cases e : c = b
  · subst e
    rw [if_pos rfl, if_neg (Ne.symm h), if_pos rfl]
  · rw [if_neg e, if_neg e]
theorem upd_old {H : Hp} {a : Addr} {x y : HO} (h : H a = some y) : upd (upd H a x) a y = H := by
  funext c
  unfold upd
  by_cases e : c = a
  · subst e
    rw [if_pos rfl, h]
  · rw [if_neg e, if_neg e]
theorem upd_id {H : Hp} {a : Addr} {x : HO} (h : H a = some x) : upd H a x = H := by
  funext c
  unfold upd
  by_cases e : c = a
  · subst e
    rw [if_pos rfl, h]
  · rw [if_neg e]
theorem Dc.wo {n p q : Addr} {kvs : List (Key × V)} {m : Nat} {H0 H : Hp} (d : Dc n p q kvs m H0 H) : Same (hn n H0 H) (Kx.wo p H) := by
  obtain ⟨o, ho⟩ := d.hp0.at_
  exact hn_nw.trans (nw_wo ho)
theorem Dc.out {P : Program} {w : World} {n p q : Addr} {kvs : List (Key × V)} {m : Nat} {H0 H : Hp} (d : Dc n p q kvs m H0 H) (l : m ≤ 12) : ∃ (kvs' : List (Option Key × V)) (ds : List (PyData × PyData)), MapAt P w (Kx.wo p H) n kvs' ∧ DP (Kx.wo p H) kvs' ds ∧ kvs'.length ≤ 12 ∧ HandAt H p q ∧ Keep H0 H p := by
  obtain ⟨ds, hd⟩ := fv_dp d.vals
  exact ⟨sk kvs, ds, .inl ⟨kvs, wo_at d.dn (ne_new d.n0 d.hp0.at_), rfl⟩, hd.keep d.wo, by rw [List.length_map]; exact Nat.le_trans d.len l, d.hp, d.kp⟩
theorem nm_len {ps us : List Str} (l : us.length = ps.length) : (nmK ps us).length = ps.length := by
  rw [List.length_map, List.length_zip]
  omega
theorem nm_i {ps us : List Str} {i : Nat} {k : Key} {v : V} (e : (nmK ps us)[i]? = some (k, v)) : ∃ z u, ps[i]? = some z ∧ us[i]? = some u ∧ k = Sum.inr z ∧ v = .str u := by
  rw [List.getElem?_map] at e
  obtain ⟨⟨z, u⟩, e1, e2⟩ := Option.map_eq_some_iff.mp e
  cases e2
  rw [List.getElem?_zip_eq_some] at e1
  exact ⟨z, u, e1.1, e1.2, rfl, rfl⟩
theorem nm_val {ps us : List Str} {i : Nat} {z u : Str} (nd : ps.Nodup) (h1 : ps[i]? = some z) (h2 : us[i]? = some u) : valV (nmK ps us) (Sum.inr z : Key) = some (.str u) := valV_sk.symm.trans (nm_at nd h1 h2)
theorem nm_fv {ps us : List Str} {H : Hp} (lab : ∀ z ∈ ps, isLab z = true) (labu : ∀ z ∈ us, isLab z = true) : ∀ kv ∈ nmK ps us, FV H kv := fun kv m => by
  obtain ⟨⟨z, u⟩, e1, rfl⟩ := List.mem_map.mp m
  obtain ⟨m1, m2⟩ := List.of_mem_zip e1
  have f1 : Lb z := lab z m1
  have f2 : Lb u := labu u m2
  exact ⟨f1.fine, _, .str u f2.fine⟩
def spSpoil (P : Program) (w : World) : Sp := fun vs H Q _ => ∃ (p q n b : Addr) (ps us : List Str), vs = [.ref p, .ref n, .ref b] ∧ HandAt H p q ∧ wo p H n = some (.dK (nmK ps us)) ∧ wo p H b = some (.lst (ps.map V.str)) ∧ ps ≠ [] ∧ ps.length ≤ 6 ∧ us.length = ps.length ∧ (∀ z ∈ ps, isLab z = true) ∧ (∀ z ∈ us, isLab z = true) ∧ ps.Nodup ∧
  ∀ a kvs ds H', H a = none → MapAt P w (wo p H') a kvs → DP (wo p H') kvs ds → kvs.length ≤ 12 → HandAt H' p q → Keep H H' p → Q (.ref a) H'
section
variable {P : Program} {w : World} {K : PySem.W.Frag} {mg : Str → Option Value} {base : Heap}
abbrev nSpoil : List Str := ["_law_hand_here", "_law_names_here", "_law_persons_here", "_law_told", "_law_person", "_law_k", "_law_way"]
theorem scSpoil : FnScope nSpoil ["_law_hand_here", "_law_names_here", "_law_persons_here"] (defScope sLSpoil) := ⟨rfl, rfl, rfl, by decide +kernel, rfl, by decide +kernel, by decide +kernel⟩
theorem ok_spoil {f : Addr} {fd : FuncData} (F : Fun K "_law_spoil" "_law_spoil" sLSpoil f fd) (m : mg "_law_spoil" = some (.ref f)) (T : Bl mg) (D : HasF P w K mg base "_law_draw" 2 ["_law_hand_here", "_law_many"] spDraw) (O : HasF P w K mg base "_law_one" 3 ["_law_hand_here", "_law_rows"] spOne) (Od : HasF P w K mg base "_law_odd" 4 ["_law_hand_here"] spOdd2) : HasF P w K mg base "_law_spoil" 5 ["_law_hand_here", "_law_names_here", "_law_persons_here"] (spSpoil P w) := by
  refine ⟨f, fd, ?_, m, F.kp, F.binds fun _ _ _ _ _ _ us hl => match us, hl with | [_, _, _], _ => rfl⟩
  obtain ⟨f1, fd1, D⟩ := D; obtain ⟨f2, fd2, O⟩ := O; obtain ⟨f3, fd3, Od⟩ := Od
  refine F.ok scSpoil (fun vs H Q E h => ?_) (fun cdv A outer s H vs Q E hr h => ?_)
  · obtain ⟨a, b, c, d, e, g, rfl, _⟩ := h
    rfl
  · obtain ⟨p, q, n, b, ps, us, rfl, hp, hnm, hb, ne, l6, lu, lab, labu, nd, k⟩ := h
    have hr2 : Room 2 _ := hr.mono (by decide)
    have hr3 : Room 3 _ := hr.mono (by decide)
    have hu := hu_of hr
    refine ⟨_, (pss_cons (ps_set (i := 3) scSpoil.nd rfl (Or.inl rfl) pe_dnewK)
    (C8.pss_cut (ps_lock (ps_for PassesOwn.never rfl (pi_keys (pv 1)) (pg_name (i := 4) scSpoil.nd rfl (.inl rfl)) (pss_one (ps_dput hu (pv 3) (pv 4) (pe_dget hu (pv 1) (pv 4) (fun _ _ => rfl)) rfl))))
    (C8.pss_cut (ps_for PassesOwn.never rfl (pi_range1 (by rfl) T.range (pa_cons (pe_call D.G hr2 (by rfl) D.m D.kp D.b .nil pass0 (pa_cons (pv 0) (pa_cons pe_int pa_nil))) pa_nil)) (pg_name (i := 5) scSpoil.nd rfl (.inl rfl))
        (pss_cons (ps_set (i := 4) scSpoil.nd rfl (Or.inl rfl) (pe_call O.G hr3 (by rfl) O.m O.kp O.b .nil pass0 (pa_cons (pv 0) (pa_cons (pv 2) pa_nil))))
    (pss_cons (ps_set (i := 6) scSpoil.nd rfl (Or.inl rfl) (pe_call D.G hr2 (by rfl) D.m D.kp D.b .nil pass0 (pa_cons (pv 0) (pa_cons pe_int pa_nil))))
    (pss_one (ps_if (PW.pt (pw_and (pt_cmpR op_eq (pv 6) pe_int (nomark _)) (pw_and1 (pt_cmp (pc_din hu (pv 4) (pv 3)))))) (pss_one (ps_expr (pe_dpop1 (pv 3) (pv 4) ⟨rfl, rfl, rfl, rfl⟩)))
            (pss_one (ps_if (pt_cmpR op_eq (pv 6) pe_int (nomark _)) (pss_one (ps_dput hu (pv 3) (pv 4) (pe_call Od.G hr (by rfl) Od.m Od.kp Od.b .nil pass0 (pa_cons (pv 0) pa_nil)) rfl))
              (pss_one (ps_dput hu (pv 3) (pv 4) (pe_dget hu (pv 1) (pe_call O.G hr3 (by rfl) O.m O.kp O.b .nil pass0 (pa_cons (pv 0) (pa_cons (pv 2) pa_nil))) (fun _ _ => rfl)) rfl)))))))))
    (C8.pss_cut (ps_mput (P := P) (w := w) rfl rfl hu (pv 3) (pe_call O.G hr3 (by rfl) O.m O.kp O.b .nil pass0 (pa_cons (pv 0) (pa_cons (pe_lst (pa_cons pe_non (pa_cons pe_int (pa_cons pe_str (pa_cons pe_str pa_nil))))) pa_nil))) (pe_call Od.G hr (by rfl) Od.m Od.kp Od.b .nil pass0 (pa_cons (pv 0) pa_nil)) rfl)
    (pss_one (ps_ret (pv 3))))))), ?_⟩
    refine fun a ha0 => ?_
    have ap := hp.ap ha0
    have aq := hp.aq ha0
    obtain ⟨hn', np⟩ := wo_get hnm
    obtain ⟨hb', bp⟩ := wo_get hb
    have an : a ≠ n := (ne_of_none hn' ha0).symm
    refine ⟨fun σ H2 => ∃ v4 : Option V, σ = [some (.ref p), some (.ref n), some (.ref b), some (.ref a), v4, none, none] ∧ H2 = upd H a (.dK (nmK ps us)), ?_, ?_⟩
    · refine ⟨n, .dK (nmK ps us), by rw [upd_ne an.symm]; exact hn', True.intro, fun od => ?_⟩
      refine ⟨_, rfl, n, od, rfl, .inl ⟨_, upd_same, for_keys (o := od) (fun i σ H3 => ∃ v4 : Option V, σ = [some (.ref p), some (.ref n), some (.ref b), some (.ref a), v4, none, none] ∧ H3 = upd (upd H n (.frz od (.dK (nmK ps us)))) a (.dK (nmK (ps.take i) (us.take i)))) ⟨none, rfl, upd_comm an⟩
        (fun i σ H3 ⟨_, _, e⟩ => by rw [e, upd_ne an.symm, upd_same]) ?_ ?_⟩⟩
      · rintro i k v σ H3 ek ⟨v4, rfl, rfl⟩
        obtain ⟨z, u, hz, hu', rfl, rfl⟩ := nm_i ek
        have lt : i < ps.length := (List.getElem?_eq_some_iff.mp hz).1
        have few : (nmK (ps.take i) (us.take i)).length < sizeLine := line2 (by simp; omega)
        refine ⟨_, rfl, _, rfl, n, _, rfl, .inl ⟨_, Sum.inr z, .inr ⟨od, by rw [upd_ne an.symm, upd_same]⟩, rfl, (nm_val nd hz hu').symm⟩, _, rfl, _, rfl, a, _, rfl, DPut.k (k := Sum.inr z) upd_same few, some (.str z), rfl, ?_⟩
        rw [upd_upd, nm_put nd hz (by rw [List.length_take]; omega)]
        have e : us.take (i + 1) = us.take i ++ [u] := by rw [List.take_add_one, hu']; rfl
        rw [e]
      · rintro σ H3 ⟨v4, rfl, rfl⟩
        rw [nm_len lu, List.take_length, ← lu, List.take_length]
        refine ⟨by rw [upd_ne an.symm, upd_same], v4, rfl, ?_⟩
        rw [upd_comm an, upd_upd, upd_id hn']
    rintro σ H2 ⟨v4, rfl, rfl⟩
    have d2 : Dc a p q (nmK ps us) 6 H (upd H a (.dK (nmK ps us))) := ⟨upd_same, ha0, hp.upd ap aq, hp, keepUpd Keep.refl ha0, nm_fv lab labu, by rw [nm_len lu]; exact l6⟩
    have nat : ∀ {kvs : List (Key × V)} {m : Nat} {H' : Hp}, Dc a p q kvs m H H' → H' n = some (.dK (nmK ps us)) := fun d => d.kp n _ hn' np
    have bat : ∀ {kvs : List (Key × V)} {m : Nat} {H' : Hp}, Dc a p q kvs m H H' → H' b = some (.lst (ps.map V.str)) := fun d => d.kp b _ hb' bp
    have pos : 0 < ps.length := List.length_pos_iff.mpr ne
    have one : ∀ {kvs : List (Key × V)} {m : Nat} {H3 : Hp} {Q' : V → Hp → Prop}, Dc a p q kvs m H H3 → (∀ z H4, z ∈ ps → HandAt H4 p q → Keep H3 H4 p → Q' (.str z) H4) → spOne [.ref p, .ref b] H3 Q' (fun _ _ _ => False) := fun d kq => by
      refine ⟨p, q, b, _, rfl, d.hp, bat d, bp, by rw [List.length_map]; exact pos, by rw [List.length_map]; omega, fun x H4 hx h4 k4 => ?_⟩
      obtain ⟨z, hz, rfl⟩ := List.mem_map.mp hx
      exact kq z H4 hz h4 k4
    refine ⟨fun σ H3 => ∃ (kvs : List (Key × V)) (v4 v5 v6 : Option V), σ = [some (.ref p), some (.ref n), some (.ref b), some (.ref a), v4, v5, v6] ∧ Dc a p q kvs 8 H H3, ?_, ?_⟩
    · refine ⟨_, rfl, p, q, 3, rfl, d2.hp, by decide, by decide, fun c H3 c0 c1 hp3 k3 => ?_⟩
      refine ⟨c, rfl, by omega, by omega, for_range (n := c.toNat) (fun i σ H4 => ∃ (kvs : List (Key × V)) (v4 v5 v6 : Option V), σ = [some (.ref p), some (.ref n), some (.ref b), some (.ref a), v4, v5, v6] ∧ Dc a p q kvs (6 + i) H H4)
        ⟨_, _, _, _, rfl, d2.draw k3 hp3⟩ ?_ ?_⟩
      · rintro i σ H4 hi ⟨kvs, v4, v5, v6, rfl, d4⟩
        refine ⟨_, rfl, _, rfl, one d4 fun z H5 mz h5 k5 => ?_⟩
        refine ⟨_, rfl, p, q, 3, rfl, h5, by decide, by decide, fun way H6 w0 w1 h6 k6 => ?_⟩
        have d6 := d4.draw (k5.trans k6) h6
        have fz : FineKo (some (Sum.inr z)) := (show Lb z from lab z mz).fine
        refine ⟨_, rfl, rfl, _, rfl, ?_⟩
        refine ite2 (fun _ => ?_) (fun _ => iteF ?_)
        · refine ⟨_, rfl, _, rfl, a, _, rfl, DGet.k (k := Sum.inr z) d6.dn, _, rfl, ?_⟩
          cases ev : valV kvs (Sum.inr z : Key) with
          | some v =>
            refine iteT ⟨_, rfl, a, rfl, .inl ⟨_, .inl d6.dn⟩, _, rfl, kvs, Sum.inr z, v, d6.dn, rfl, ev, ?_⟩
            exact ⟨_, _, _, _, rfl, (d6.drop (Sum.inr z)).le (by omega)⟩
          | none =>
            refine iteF ?_
            refine ⟨_, rfl, rfl, _, rfl, ite2 (fun _ => ?_) (fun _ => ?_)⟩
            · refine ⟨_, rfl, p, q, rfl, d6.hp, fun x dx H7 hx h7 k7 => ?_⟩
              have d7 := d6.draw k7 h7
              exact ⟨_, rfl, _, rfl, a, _, rfl, DPut.k (k := Sum.inr z) d7.dn (line2 (by have := d7.len; omega)), _, _, _, _, rfl, (d7.put (Sum.inr z) ⟨fz, dx, hx.keep d6.sub⟩).le (by omega)⟩
            · refine ⟨_, rfl, _, rfl, _, rfl, one d6 fun z2 H7 mz2 h7 k7 => ?_⟩
              have d7 := d6.draw k7 h7
              obtain ⟨j, hj⟩ := List.mem_iff_getElem?.mp mz2
              have lj : j < us.length := by rw [lu]; exact (List.getElem?_eq_some_iff.mp hj).1
              have fu : Lb us[j] := labu _ (List.getElem_mem lj)
              exact ⟨n, _, rfl, .inl ⟨_, Sum.inr z2, .inl (nat d7), rfl, (nm_val nd hj (List.getElem?_eq_getElem lj)).symm⟩, _, rfl, _, rfl, a, _, rfl, DPut.k (k := Sum.inr z) d7.dn (line2 (by have := d7.len; omega)), _, _, _, _, rfl, (d7.put (Sum.inr z) ⟨fz, _, .str _ fu.fine⟩).le (by omega)⟩
        · skip
          refine ⟨_, rfl, rfl, _, rfl, ite2 (fun _ => ?_) (fun _ => ?_)⟩
          · refine ⟨_, rfl, p, q, rfl, d6.hp, fun x dx H7 hx h7 k7 => ?_⟩
            have d7 := d6.draw k7 h7
            exact ⟨_, rfl, _, rfl, a, _, rfl, DPut.k (k := Sum.inr z) d7.dn (line2 (by have := d7.len; omega)), _, _, _, _, rfl, (d7.put (Sum.inr z) ⟨fz, dx, hx.keep d6.sub⟩).le (by omega)⟩
          · refine ⟨_, rfl, _, rfl, _, rfl, one d6 fun z2 H7 mz2 h7 k7 => ?_⟩
            have d7 := d6.draw k7 h7
            obtain ⟨j, hj⟩ := List.mem_iff_getElem?.mp mz2
            have lj : j < us.length := by rw [lu]; exact (List.getElem?_eq_some_iff.mp hj).1
            have fu : Lb us[j] := labu _ (List.getElem_mem lj)
            exact ⟨n, _, rfl, .inl ⟨_, Sum.inr z2, .inl (nat d7), rfl, (nm_val nd hj (List.getElem?_eq_getElem lj)).symm⟩, _, rfl, _, rfl, a, _, rfl, DPut.k (k := Sum.inr z) d7.dn (line2 (by have := d7.len; omega)), _, _, _, _, rfl, (d7.put (Sum.inr z) ⟨fz, _, .str _ fu.fine⟩).le (by omega)⟩
      · rintro σ H4 ⟨kvs, v4, v5, v6, rfl, d4⟩
        exact ⟨kvs, v4, v5, v6, rfl, d4.le (by omega)⟩
    rintro σ H3 ⟨kvs, v4', v5, v6, rfl, d3⟩
    refine ⟨fun σ H6 => ∃ (kvs : List (Option Key × V)) (ds : List (PyData × PyData)), σ = [some (.ref p), some (.ref n), some (.ref b), some (.ref a), v4', v5, v6] ∧ MapAt P w (wo p H6) a kvs ∧ DP (wo p H6) kvs ds ∧ kvs.length ≤ 12 ∧ HandAt H6 p q ∧ Keep H H6 p, ?_, ?_⟩
    · refine ⟨_, rfl, p, q, rfl, d3.hp, fun x dx H4 hx h4 k4 => ?_⟩
      have d4 := d3.draw k4 h4
      have hx4 : Dd (hn a H H4) 1 x dx := hx.keep d3.sub
      refine ⟨_, rfl, _, rfl, (by show 4 ≤ sizeLine; decide), fun r hr' => ?_⟩
      have d5 := d4.new (o := .lst [V.non, V.int 3, V.str (Str.ofString ""), V.str (Str.ofString "ZZ")]) hr'
      refine ⟨p, q, r, _, rfl, d5.hp, upd_same, (d4.fresh hr').2.2.1, (by show 0 < 4; decide), (by show 4 ≤ 1000; decide), fun y H6 hy h6 k6 => ?_⟩
      have d6 := d5.draw k6 h6
      have hx6 : Dd (hn a H H6) 1 x dx := (hx4.keep (d4.up (keepUpd Keep.refl hr'))).keep (d5.up k6)
      have few : kvs.length < sizeLine := line2 (by have := d6.len; omega)
      have fin : ∀ k : Key, FineKo (some k) → ∃ (kvs' : List (Option Key × V)) (ds : List (PyData × PyData)), [some (V.ref p), some (.ref n), some (.ref b), some (.ref a), v4', v5, v6] = [some (V.ref p), some (.ref n), some (.ref b), some (.ref a), v4', v5, v6] ∧ MapAt P w (wo p (upd H6 a (.dK (putK kvs k x)))) a kvs' ∧ DP (wo p (upd H6 a (.dK (putK kvs k x)))) kvs' ds ∧ kvs'.length ≤ 12 ∧ HandAt (upd H6 a (.dK (putK kvs k x))) p q ∧ Keep H (upd H6 a (.dK (putK kvs k x))) p := fun k fk => by
        obtain ⟨kvs', ds, g⟩ := (d6.put k ⟨fk, dx, hx6⟩).out (P := P) (w := w) (by decide)
        exact ⟨kvs', ds, rfl, g⟩
      simp only [List.mem_cons, List.not_mem_nil, or_false] at hy
      rcases hy with e | e | e | e <;> subst e
      · obtain ⟨ds, hd⟩ := fv_dp d6.vals
        refine ⟨a, rfl, .inr ⟨kvs, rfl, d6.dn, few, sk kvs ++ [(none, x)], ds ++ [(.none, dx)], rfl, .inr (wo_at upd_same ap), ?_, ?_, d6.hp.upd ap aq, keepUpd d6.kp ha0⟩⟩
        · have e : DP (hn a H H6) (sk kvs ++ [(none, x)]) (ds ++ [(.none, dx)]) := pr_app2 hd (.cons ⟨rfl, True.intro, hx6⟩ .nil)
          refine DP.keep e ?_
          obtain ⟨o, ho⟩ := hp.at_
          exact hn_b.trans (hn_nw.trans (nw_wo ho))
        · have := d6.len
          simp
          omega
      · exact ⟨a, rfl, .inl ⟨_, DPut.k (k := Sum.inl 3) d6.dn few, fin (Sum.inl 3) (by show Int.natAbs 3 < 10 ^ 9; decide)⟩⟩
      · exact ⟨a, rfl, .inl ⟨_, DPut.k (k := Sum.inr (Str.ofString "")) d6.dn few, fin _ ⟨by decide +kernel, by decide +kernel⟩⟩⟩
      · exact ⟨a, rfl, .inl ⟨_, DPut.k (k := Sum.inr (Str.ofString "ZZ")) d6.dn few, fin _ ⟨by decide +kernel, by decide +kernel⟩⟩⟩
    rintro σ H6 ⟨kvs', ds, rfl, g1, g2, g3, g4, g5⟩
    exact ⟨_, rfl, k a kvs' ds H6 ha0 g1 g2 g3 g4 g5⟩
end
end Kx

set_option maxHeartbeats 8000000
namespace Kx
open PySem L2
/-! _law_due -/
theorem nd_len (ls : List Str) : ls.Nodup ↔ ¬ (addAll [] ls).length < ls.length := by
  have h := add_len ls [] List.nodup_nil
  have le := addAll_len ls []
  simp only [List.length_nil, Nat.zero_add, List.nil_append] at h le
  rw [← h]
  omega
theorem nd_take {ls : List Str} {i : Nat} {u : Str} (h : ls[i]? = some u) (nd : (ls.take i).Nodup) : (ls.take (i + 1)).Nodup ↔ u ∉ ls.take i := by
  rw [List.take_add_one, h]
  constructor
  · intro n m
    exact (List.nodup_append.mp n).2.2 u m u (.head _) rfl
  · intro n
    refine List.nodup_append.mpr ⟨nd, List.nodup_cons.mpr ⟨(fun z => nomatch z), List.nodup_nil⟩, fun a ha b hb => ?_⟩
    rw [List.mem_singleton.mp hb]
    exact fun z => n (z ▸ ha)
def spDue (P : Program) (w : World) : Sp := fun vs H Q _ => ∃ (a b : Addr) (kvs : List (Option Key × V)) (ps : List Str), vs = [.ref a, .ref b] ∧ MapAt P w H a kvs ∧ (∀ kv ∈ kvs, ∃ n, Thing H kv.2 n) ∧ H b = some (.lst (ps.map V.str)) ∧ ps.length ≤ 900 ∧ ∀ H', Same H H' → Q (wordV (mapDue (some kvs) ps)) H'
section
variable {P : Program} {w : World} {K : PySem.W.Frag} {mg : Str → Option Value} {base : Heap}
abbrev nDue : List Str := ["_law_told", "_law_persons_here", "_law_person", "_law_seen"]
theorem scDue : FnScope nDue ["_law_told", "_law_persons_here"] (defScope sLDue) := ⟨rfl, rfl, rfl, by decide +kernel, rfl, by decide +kernel, by decide +kernel⟩
theorem ok_due {f : Addr} {fd : FuncData} (F : Fun K "_law_due" "_law_due" sLDue f fd) (m : mg "_law_due" = some (.ref f)) (T : Bl mg) (L : HasF P w K mg base "_law_label" 1 ["_law_thing"] spLLab) : HasF P w K mg base "_law_due" 4 ["_law_told", "_law_persons_here"] (spDue P w) := by
  refine ⟨f, fd, ?_, m, F.kp, F.binds fun _ _ _ _ _ _ us hl => match us, hl with | [_, _], _ => rfl⟩
  obtain ⟨f1, fd1, L⟩ := L
  refine F.ok scDue (fun vs H Q E h => ?_) (fun cdv A outer s H vs Q E hr h => ?_)
  · obtain ⟨a, b, c, d, rfl, _⟩ := h
    rfl
  · obtain ⟨a, b, kvs, ps, rfl, ha, t, hb, l9, k⟩ := h
    have hr1 : Room 1 _ := hr.mono (by decide)
    refine ⟨_, (C8.pss_cut (ps_for PassesOwn.never rfl (pi_seq (pv 1)) (pg_name (i := 2) scDue.nd rfl (.inl rfl)) (pss_one (ps_if (pt_cmp (pc_mnotin (P := P) (w := w) rfl rfl (pv 2) (pv 0))) (pss_one (ps_ret pe_str)) pss_nil)))
    (C8.pss_cut (ps_if (pt_cmpR (op_neL hr.units) (pe_lc (own := [("_law_person", 2)]) (g := gName 2) (by rfl) scDue.nd (pi_seq (pv 1)) (blkOk_by (own := [("_law_person", 2)]) (N := nDue) (sc := defScope sLDue) (by decide +kernel))
            (fun _ _ _ _ _ => pg_name (i := 2) scDue.nd rfl (Or.inl rfl)) (fun _ _ _ _ _ => pts_one (pt_not (pt_val (pe_call L.G hr1 (by rfl) L.m L.kp L.b .nil pass0 (pa_cons (pe_mget (P := P) (w := w) rfl rfl (pv 0) (pv 2) (fun _ _ => rfl)) pa_nil))))) (fun _ _ _ _ _ => (pv 2))) (pe_lst pa_nil) (nomark _)) (pss_one (ps_ret pe_str)) pss_nil)
    (pss_cons (ps_set (i := 3) scDue.nd rfl (Or.inl rfl) (pe_lst pa_nil))
    (C8.pss_cut (ps_for PassesOwn.never rfl (pi_seq (pv 1)) (pg_name (i := 2) scDue.nd rfl (.inl rfl)) (pss_cons (ps_if (pt_cmpR op_in_seq (pe_mget (P := P) (w := w) rfl rfl (pv 0) (pv 2) (fun _ _ => rfl)) (pv 3) (by rfl)) (pss_one (ps_ret pe_str)) pss_nil)
    (pss_one (ps_expr (pe_bm PySem.F.plainAttrs_list PySem.F.slot_list_append PySem.F.type_list_append mt_append (pv 3) (pa_cons (pe_mget (P := P) (w := w) rfl rfl (pv 0) (pv 2) (fun _ _ => rfl)) pa_nil))))))
    (pss_one (ps_ret pe_non)))))), ?_⟩
    have word : ∀ w', (if ps.all (fun z => (atN kvs z).isSome) = true then (if ps.all (fun z => labO (atN kvs z)) = true then (if (addAll [] (ledOf kvs ps)).length < ps.length then some (Str.ofString "merged") else none) else some (Str.ofString "label")) else some (Str.ofString "person")) = w' → ∀ H', Same H H' → Q (wordV w') H' := fun w' e H' s => by
      have q := k H' s
      have e2 : mapDue (some kvs) ps = w' := e
      rw [e2] at q
      exact q
    have at_ : ∀ {i : Nat} {y : V}, (ps.map V.str)[i]? = some y → ∃ z, ps[i]? = some z ∧ y = V.str z := fun {i y} hi => by
      rw [List.getElem?_map] at hi
      cases e : ps[i]? with
      | none => rw [e] at hi; cases hi
      | some z => rw [e] at hi; exact ⟨z, rfl, (Option.some.inj hi).symm⟩
    have allOf : ∀ {f : Str → Bool}, (∀ i, i < (ps.map V.str).length → (match ps[i]? with | some z => !f z | none => false) = false) ↔ ps.all f = true := fun {f} => by
      constructor
      · intro h
        refine List.all_eq_true.mpr fun z m => ?_
        obtain ⟨i, hi⟩ := List.mem_iff_getElem?.mp m
        have q := h i (by rw [List.length_map]; exact (List.getElem?_eq_some_iff.mp hi).1)
        rw [hi] at q
        have q : (!f z) = false := q
        cases e : f z with
        | true => rfl
        | false => rw [e] at q; cases q
      · intro h i _
        cases e : ps[i]? with
        | none => rfl
        | some z =>
          have q := List.all_eq_true.mp h z (List.mem_of_getElem? e)
          show (!f z) = false
          rw [q]
          rfl
    -- each is there
    refine ⟨fun σ H1 => ∃ v2 : Option V, ps.all (fun z => (atN kvs z).isSome) = true ∧ σ = [some (.ref a), some (.ref b), v2, none] ∧ H1 = H, ?_, ?_⟩
    · refine ⟨_, rfl, b, rfl, for_sq (K := K) (a := b) (xs := ps.map V.str) (IsSeq.lst hb) (fun i σ H2 => ∃ v2 : Option V, σ = [some (.ref a), some (.ref b), v2, none] ∧ H2 = H ∧ (ps.take i).all (fun z => (atN kvs z).isSome) = true)
        ⟨none, rfl, rfl, rfl⟩ (fun i σ H2 ⟨_, _, e, _⟩ => by rw [e]; exact Same.refl _) ?_ ?_⟩
      · rintro i y σ H2 hi ⟨v2, rfl, rfl, al⟩
        obtain ⟨z, hz, rfl⟩ := at_ hi
        refine ⟨_, rfl, _, rfl, a, kvs, z, rfl, rfl, ha, _, rfl, ?_⟩
        cases e : valV kvs (some (Sum.inr z) : Option Key) with
        | none =>
          refine iteT (word (some "person") (if_neg fun q => ?_) _ (Same.refl _))
          have q2 : (valV kvs (some (Sum.inr z) : Option Key)).isSome = true := List.all_eq_true.mp q z (List.mem_of_getElem? hz)
          rw [e] at q2
          cases q2
        | some v =>
          refine iteF ⟨_, rfl, rfl, ?_⟩
          have e' : atN kvs z = some v := e
          rw [List.take_add_one, hz, List.all_append, al]
          simp [e']
      · rintro σ H2 ⟨v2, rfl, rfl, al⟩
        rw [List.length_map, List.take_length] at al
        exact ⟨v2, al, rfl, rfl⟩
    rintro σ H1 ⟨v2, al, rfl, rfl⟩
    have some_at : ∀ z ∈ ps, ∃ v n, atN kvs z = some v ∧ Thing H1 v n := fun z m => by
      have q := List.all_eq_true.mp al z m
      cases e : atN kvs z with
      | none => rw [e] at q; cases q
      | some v =>
        obtain ⟨n, tv⟩ := val_thing t e
        exact ⟨v, n, rfl, tv⟩
    -- each is led to a label
    refine ⟨fun σ H2 => ps.all (fun z => labO (atN kvs z)) = true ∧ σ = [some (.ref a), some (.ref b), v2, none] ∧ Same H1 H2, ?_, ?_⟩
    · refine ⟨_, rfl, b, rfl, lc_filt (g := gName 2) (fun j => match ps[j]? with | some z => !labO (atN kvs z) | none => false) (IsSeq.lst hb) (Same.refl _) (by rw [List.length_map]; omega) ?_ ?_⟩
      · intro D2 j y H6 kt kf hj hD2 s6 _ kt' kf'
        obtain ⟨z, hz, rfl⟩ := at_ hj
        rw [hz] at kt' kf'
        obtain ⟨v, nv, ev, tv⟩ := some_at z (List.mem_of_getElem? hz)
        refine ⟨rfl, _, rfl, _, rfl, a, kvs, z, v, rfl, rfl, ha.keep s6, ev, v, nv, rfl, (tv.keep s6).kd, tv.fine, fun H7 s7 => ⟨_, rfl, ?_⟩⟩
        have el : labO (atN kvs z) = labV v := by rw [ev]; rfl
        cases e : labV v with
        | false => exact (if_pos rfl).mpr ⟨_, rfl, kt' (by show (!labO (atN kvs z)) = true; rw [el, e]; rfl) _ _ (.inl rfl) s7⟩
        | true => exact (if_neg (by decide)).mpr (kf' (by show (!labO (atN kvs z)) = false; rw [el, e]; rfl) _ s7)
      · intro D2 ys H6 hD2 s6 hd6 ly ok ey
        refine ⟨Nat.zero_le _, fun l hl => ne_nil (K := K) (by rw [upd_ne (ne_of_none hd6 hl)]; exact hd6) ok l upd_same ⟨_, rfl, ?_⟩⟩
        have s7 : Same H1 (upd H6 l (.lst [])) := sameUpd s6 hl
        have all := ey.trans allOf
        cases ys with
        | nil => exact iteF ⟨all.mp rfl, rfl, s7⟩
        | cons y ys => exact iteT (word (some "label") (by rw [if_pos al, if_neg fun q => by have := all.mpr q; simp at this]) _ s7)
    rintro σ H2 ⟨al2, rfl, s2⟩
    obtain ⟨ll, lg⟩ := led_len al2
    refine ⟨Nat.zero_le _, fun c hc => ?_⟩
    have s3 : Same H1 (upd H2 c (.lst [])) := sameUpd s2 hc
    generalize hls : ledOf kvs ps = ls at *
    -- none twice
    refine ⟨fun σ H4 => ls.Nodup ∧ Same H1 H4, ?_, ?_⟩
    · refine ⟨_, rfl, b, rfl, for_sq (K := K) (a := b) (xs := ps.map V.str) (IsSeq.lst hb) (fun i σ H4 => ∃ v2 : Option V, σ = [some (.ref a), some (.ref b), v2, some (.ref c)] ∧ Same H1 H4 ∧ H4 c = some (.lst ((ls.take i).map V.str)) ∧ (ls.take i).Nodup)
        ⟨v2, rfl, s3, upd_same, List.nodup_nil⟩ (fun i σ H4 ⟨_, _, s, _⟩ => s) ?_ ?_⟩
      · rintro i y σ H4 hi ⟨v2, rfl, s4, hc4, nd⟩
        obtain ⟨z, hz, rfl⟩ := at_ hi
        obtain ⟨u, eu, el, _⟩ := lg i z hz
        refine ⟨_, rfl, _, rfl, a, kvs, z, _, rfl, rfl, ha.keep s4, eu, _, rfl, c, _, rfl, .inl (SqL.of hc4), rfl, all_flat _, _, rfl, ?_⟩
        rw [if_neg Bool.false_ne_true, inV_strs]
        refine ite2 (fun e => ?_) (fun e => ?_)
        · have m : u ∈ ls.take i := of_decide_eq_true e
          refine word (some "merged") ?_ _ s4
          rw [if_pos al, if_pos al2]
          refine if_pos ?_
          have nn : ¬ ls.Nodup := fun n => by
            have n2 : (ls.take (i + 1)).Nodup := n.sublist (List.take_sublist _ _)
            exact (nd_take el nd).mp n2 m
          rw [nd_len] at nn
          omega
        · have m : u ∉ ls.take i := fun m => e (decide_eq_true m)
          refine ⟨_, rfl, .inl ⟨rfl, _, SqL.of hc4⟩, _, rfl, _, rfl, a, kvs, z, _, rfl, rfl, ha.keep s4, eu, c, _, _, rfl, rfl, hc4, small1000 (by simp; omega), some (.str z), rfl, fun c' o e' => ?_, ?_, (nd_take el nd).mpr m⟩
          · rw [upd_ne (ne_of_none (s2 _ _ e') hc)]
            exact s4 c' o e'
          · rw [upd_same, List.take_add_one, el, List.map_append]
            rfl
      · rintro σ H4 ⟨v2, rfl, s4, hc4, nd⟩
        rw [List.length_map, ← ll, List.take_length] at nd
        exact ⟨nd, s4⟩
    rintro σ H4 ⟨nd, s4⟩
    refine word none ?_ _ s4
    rw [if_pos al, if_pos al2]
    refine if_neg ?_
    rw [nd_len] at nd
    omega
end
end Kx

set_option maxHeartbeats 8000000
namespace Kx
open PySem L2
/-! _law_led -/
theorem op_catTK {X : Cx} {K : PySem.W.Frag} (h : X.K = K) : OpR X (binaryOp .Add) (rCatT K) := by
  subst h
  exact op_catT
def spLed (P : Program) (w : World) : Sp := fun vs H Q _ => ∃ (x : V) (a : Addr) (kvs : List (Option Key × V)) (ys : List (List (List Str))), vs = [x, .ref a] ∧ Ys .tup H x ys ∧ YB ys ∧ MapAt P w H a kvs ∧ labAll kvs (allP ys) ∧ ∀ t H', H t = none → Same H H' → Ys .tup H' (.ref t) (ledY kvs ys) → Q (.ref t) H'
section
variable {P : Program} {w : World} {K : PySem.W.Frag} {mg : Str → Option Value} {base : Heap}
abbrev nLed : List Str := ["_law_years", "_law_names_here", "_law_year", "_law_deed", "_law_person"]
theorem scLed : FnScope nLed ["_law_years", "_law_names_here"] (defScope sLLed) := ⟨rfl, rfl, rfl, by decide +kernel, rfl, by decide +kernel, by decide +kernel⟩
abbrev scL1 : Scope := { kind := ScopeKind.function, names := [(Str.ofString ".0", NameKind.local), (Str.ofString "_law_year", NameKind.local), (Str.ofString "tuple", NameKind.globalImplicit), (Str.ofString "_law_names_here", NameKind.cell)], isGenerator := false, isCoroutine := false }
abbrev scL2 : Scope := { kind := ScopeKind.function, names := [(Str.ofString ".0", NameKind.local), (Str.ofString "_law_deed", NameKind.local), (Str.ofString "tuple", NameKind.globalImplicit), (Str.ofString "_law_names_here", NameKind.cell)], isGenerator := false, isCoroutine := false }
theorem ok_led {f : Addr} {fd : FuncData} (F : Fun K "_law_led" "_law_led" sLLed f fd) (m : mg "_law_led" = some (.ref f)) (B : Bm mg) : HasF P w K mg base "_law_led" 1 ["_law_years", "_law_names_here"] (spLed P w) := by
  refine ⟨f, fd, ?_, m, F.kp, F.binds fun _ _ _ _ _ _ us hl => match us, hl with | [_, _], _ => rfl⟩
  refine F.ok scLed (fun vs H Q E h => ?_) (fun cdv A outer s H vs Q E hr h => ?_)
  · obtain ⟨a, b, c, d, rfl, _⟩ := h
    rfl
  · obtain ⟨x, a, kvs, ys, rfl, hy, yb, ha, al, k⟩ := h
    refine ⟨_, pss_one (ps_ret (pe_callTy call_tuple_of (by rfl) B.tuple (by decide +kernel) (pa_cons (pe_lc (own := [("_law_year", 2)]) (g := gName 2) (tt := tYes) (by rfl) scLed.nd (pi_seq (pv 0)) (blkOk_by (own := [("_law_year", 2)]) (N := nLed) (sc := defScope sLLed) (by decide +kernel)) (fun _ _ _ _ _ => pg_name (i := 2) scLed.nd rfl (Or.inl rfl)) (fun _ _ _ _ _ => pts_nil)
      (fun _ _ _ _ _ => (pe_callTy (call_tupK (K := K) rfl) (by rfl) B.tuple (by decide +kernel) (pa_cons (pe_lc (own := [("_law_deed", 3)]) (g := gName 3) (tt := tYes) (by rfl) scLed.nd (pi_seqK (K := K) rfl (pv 2)) (blkOk_by (own := [("_law_deed", 3)]) (N := nLed) (sc := scL1) (by decide +kernel)) (fun _ _ _ _ _ => pg_name (i := 3) scLed.nd rfl (Or.inl rfl)) (fun _ _ _ _ _ => pts_nil)
        (fun _ _ _ _ _ => (pe_op (op_catTK (K := K) rfl) (pe_tup (pa_cons (pe_ix (ix_seqK (K := K) rfl) (pv 3) pe_int (fun _ _ => rfl)) pa_nil)) (pe_callTy (call_tupK (K := K) rfl) (by rfl) B.tuple (by decide +kernel) (pa_cons (pe_lc (own := [("_law_person", 4)]) (g := gName 4) (tt := tYes) (by rfl) scLed.nd (pi_seqK (K := K) rfl (pe_slice (sl_tupK (K := K) rfl) (pv 3) (po_some pe_int) po_none)) (blkOk_by (own := [("_law_person", 4)]) (N := nLed) (sc := scL2) (by decide +kernel)) (fun _ _ _ _ _ => pg_name (i := 4) scLed.nd rfl (Or.inl rfl)) (fun _ _ _ _ _ => pts_nil)
          (fun _ _ _ _ _ => (pe_mget (P := P) (w := w) rfl rfl (pv 1) (pv 4) (fun _ _ => rfl)))) pa_nil))))) pa_nil)))) pa_nil))), ?_⟩
    obtain ⟨yt, xs, rfl, hyt, px⟩ := hy
    have lx := Paired.length px
    have n8 := yb.n
    refine ⟨_, rfl, yt, rfl, lc_pure (g := gName 2) (fun j v H' => ∀ d, ys[j]? = some d → Ds .tup H' v (ledDs kvs d)) (fun j v H' H'' q s d e => (q d e).keep s) (IsSeq.tup hyt) (Same.refl _) (by omega) ?_ ?_ fun x σ H Q Q' q z => q _ _ z⟩
    · rintro D i x H3 k' hi hD s3 ⟨acc, hacc⟩ kk
      obtain ⟨y, hy, yb', zs, rfl, hyb, pz⟩ := pr_get px hi
      have my := List.mem_of_getElem? hy
      have lz := Paired.length pz
      have ny := (yb.m y my).1
      refine ⟨rfl, ?_⟩
      refine ⟨_, rfl, yb', rfl, lc_pure (g := gName 3) (fun j v H' => ∀ d, y[j]? = some d → Ss .tup H' v (ledD kvs d)) (fun j v H' H'' q s d e => (q d e).keep s) (IsSeq.tup (s3 _ _ hyb)) (Same.refl _) (by omega) ?_ ?_ fun x σ H Q Q' q z => q _ _ z⟩
      · rintro D2 j x2 H4 k2 hj hD2 s4 ⟨acc2, hacc2⟩ kk2
        obtain ⟨d, hd, db, rfl, hdb⟩ := pr_get pz hj
        have md := List.mem_of_getElem? hd
        have s34 := s3.trans s4
        have hdb4 := s34 _ _ hdb
        obtain ⟨z0, ps, rfl⟩ : ∃ z0 ps, d = z0 :: ps := by
          cases d with
          | nil => exact absurd rfl (yb.ne y my [] md)
          | cons z ps => exact ⟨z, ps, rfl⟩
        have alp : labAll kvs ps := al.sub fun z m => mem_deedP my md m
        have lp : (z0 :: ps).length ≤ 3 := ((yb.m y my).2 _ md).2.1
        rw [List.length_cons] at lp
        refine ⟨rfl, _, rfl, .inr (.inl ⟨_, _, _, _, rfl, rfl, SqT.of hdb4, at0 _ _, ?_⟩)⟩
        refine ⟨(by show 1 ≤ sizeLine; decide), fun t1 ht1 => ?_⟩
        have s5 : Same H4 (upd H4 t1 (.tup [V.str z0])) := sameUpd (Same.refl _) ht1
        refine ⟨_, rfl, _, rfl, db, _, rfl, SqT.of (s5 _ _ hdb4), whole _ _, fun q hq => ?_⟩
        have ecut : cutV ((z0 :: ps).map V.str) (some 1) none = ps.map V.str := by rw [List.map_cons, cut1]
        rw [ecut]
        have s6 : Same H4 (upd (upd H4 t1 (.tup [V.str z0])) q (.tup (ps.map V.str))) := sameUpd s5 hq
        have t1at : upd (upd H4 t1 (.tup [V.str z0])) q (.tup (ps.map V.str)) t1 = some (.tup [V.str z0]) := by rw [upd_ne (ne_of_none upd_same hq)]; exact upd_same
        refine ⟨q, rfl, lc_led (P := P) (w := w) (K := K) (i := 4) (ha.keep (s34.trans s6)) (IsSeq.tup upd_same) (by omega) alp (fun z u H5 k5 hm ev kq => ⟨rfl, _, rfl, _, rfl, a, kvs, z, _, rfl, rfl, hm, ev, kq⟩) fun D3 H5 hD3 s7 hd5 => ?_⟩
        have ll : (ledOf kvs ps).length = ps.length := (led_len alp).1
        refine ⟨D3, _, rfl, .inl ⟨SqL.of hd5, fun l hl => ?_⟩⟩
        have s8 : Same H4 (upd H5 l (.tup ((ledOf kvs ps).map V.str))) := (s6.trans s7).trans (sameUpd (Same.refl _) hl)
        have t1at2 : upd H5 l (.tup ((ledOf kvs ps).map V.str)) t1 = some (.tup [V.str z0]) := sameUpd s7 hl _ _ t1at
        have dfree : ∀ {Hz : Hp} {p : Addr} {us : List V}, Same H4 Hz → Hz p = some (.tup us) → p ≠ D2 := fun s e z => by rw [z, s _ _ hacc2] at e; cases e
        refine ⟨t1, l, _, _, rfl, rfl, SqT.of t1at2, SqT.of upd_same, (fun z => nomatch z), Nat.le_of_lt (line2 (by show 1 + ((ledOf kvs ps).map V.str).length ≤ 2000000; rw [List.length_map]; omega)), fun e => ?_, fun e p hp => ?_⟩
        · refine kk2 _ _ s8 fun d' e' => ?_
          rw [hd] at e'
          cases e'
          have en : ledOf kvs ps = [] := List.map_eq_nil_iff.mp e
          refine ⟨t1, rfl, wo_at ?_ (dfree s8 t1at2)⟩
          rw [t1at2]
          show some (HO.tup [V.str z0]) = some (.tup ((z0 :: ledOf kvs ps).map V.str))
          rw [en]
          rfl
        · refine kk2 _ _ (sameUpd s8 hp) fun d' e' => ?_
          rw [hd] at e'
          cases e'
          exact ⟨p, rfl, wo_at upd_same (dfree (us := [V.str z0] ++ (ledOf kvs ps).map V.str) (sameUpd s8 hp) upd_same)⟩
      · intro D2 zs2 H4 hD2 s4 hd2 lz2 g2
        refine ⟨D2, zs2, rfl, .inl ⟨SqL.of hd2, fun l hl => kk _ _ (sameUpd s4 hl) fun d' e => ?_⟩⟩
        rw [hy] at e
        cases e
        have lD : l ≠ D := (ne_of_none (s4 _ _ hacc) hl).symm
        refine ⟨l, zs2, rfl, wo_at upd_same lD, pr_of (by rw [List.length_map]; omega) fun j v d e1 e2 => ?_⟩
        rw [List.getElem?_map] at e2
        obtain ⟨d0, hd0, rfl⟩ := Option.map_eq_some_iff.mp e2
        obtain ⟨u, rfl, hu⟩ := (g2 j v e1 d0 hd0)
        obtain ⟨hu2, n1⟩ := wo_get hu
        have uD : u ≠ D := fun z => by rw [z, s4 _ _ hacc] at hu2; cases hu2
        exact ⟨u, rfl, wo_at (by rw [upd_ne (ne_of_none hu2 hl)]; exact hu2) uD⟩
    · intro D zs H3 hD s3 hd3 lz3 g3
      refine ⟨D, zs, rfl, .inl ⟨SqL.of hd3, fun l hl => ?_⟩⟩
      have s5 : Same H (upd H3 l (.tup zs)) := sameUpd s3 hl
      refine k l _ (s3.free hl) s5 ⟨l, zs, rfl, upd_same, pr_of (by rw [List.length_map]; omega) fun j v d e1 e2 => ?_⟩
      rw [List.getElem?_map] at e2
      obtain ⟨d0, hd0, rfl⟩ := Option.map_eq_some_iff.mp e2
      exact (g3 j v e1 d0 hd0).keep (wo_same.trans (sameUpd (Same.refl _) hl))
end
end Kx

set_option maxHeartbeats 16000000
namespace Kx
open PySem L2
theorem call_listX {X : Cx} {K : PySem.W.Frag} (h : X.K = K) : CallR X (.type "list") (fun xs H Q => ∃ p ys, xs = [.ref p] ∧ (SqL K H p ys ∨ SqT K H p ys) ∧ ∀ l, H l = none → Q (.ref l) (upd H l (.lst ys))) := by
  subst h
  exact call_list_of
structure Rp (mg : Str → Option Value) : Prop where
  repr : mg "repr" = none
abbrev NLaw : List Str := ["_law_script", "_law_hand_here", "_law_rows", "_law_persons_here", "_law_years", "_law_history", "_law_named_here", "_law_names_here", "_law_told", "_law_kept", "_law_due_here", "_law_found", "_law_moved", "_law_person", "_law_back", "_law_again", "_law_joined", "_law_seats", "_law_stand", "_law_sits", "_law_name", "_law_k"]
theorem scLaw : FnScope NLaw ["_law_script"] (defScope sLaw) := ⟨rfl, rfl, rfl, by decide +kernel, rfl, by decide +kernel, by decide +kernel⟩
/-- all that the law calls -/
structure All5 (P : Program) (w : World) (K : PySem.W.Frag) (mg : Str → Option Value) (base : Heap) (C CK CS CB CKB CSB CM gK gH gS gR gP gPS gEK gEH gES pp ps' : Addr) (dK dH dS dR dP dPS dEK dEH dES : FuncData) (dv : V) (ds : List Value) : Prop where
  hand : HasF P w K mg base "_law_hand" 1 ["_law_script"] (spHand K)
  draw : HasF P w K mg base "_law_draw" 2 ["_law_hand_here", "_law_many"] spDraw
  one : HasF P w K mg base "_law_one" 3 ["_law_hand_here", "_law_rows"] spOne
  kinds : HasF P w K mg base "_law_kinds" 4 ["_law_hand_here"] spLKinds
  persons : HasF P w K mg base "_law_persons" 4 ["_law_hand_here"] spPersons
  told : HasF P w K mg base "_law_told_years" 5 ["_law_hand_here", "_law_rows", "_law_persons_here"] spTold
  tuples : HasF P w K mg base "_law_tuples" 1 ["_law_years"] spTuples
  named : HasF P w K mg base "_law_named" 1 ["_law_years"] spNamed
  names : HasF P w K mg base "_law_names" 4 ["_law_hand_here", "_law_persons_here"] (spNames K)
  spoil : HasF P w K mg base "_law_spoil" 5 ["_law_hand_here", "_law_names_here", "_law_persons_here"] (spSpoil P w)
  due : HasF P w K mg base "_law_due" 4 ["_law_told", "_law_persons_here"] (spDue P w)
  led : HasF P w K mg base "_law_led" 1 ["_law_years", "_law_names_here"] (spLed P w)
  tried : HasF P w K mg base "_law_tried" 8 ["_law_thing", "_law_told"] (spTried P w C CK CS)
  mapf : HasF P w K mg base "map_fault" 2 ["names", "persons"] (spMapFault P w K)
  KX : KC K CK
  HX : HC K C
  SX : SC K CS
  mK : mg "Kinds" = some (.ref CK)
  mH : mg "History" = some (.ref C)
  mS : mg "Stand" = some (.ref CS)
  MK : Mk K CK gK
  GK : FnOk P w K mg base (L2.CX P w) 3 gK dK ["self", "rows"] (spKinds K CK CKB)
  bK : Binds K dK ["self", "rows"] []
  MH : Mk K C gH
  GH : FnOk P w K mg base (L2.CX P w) 4 gH dH ["self", "kinds", "years"] (spHist K C CK CB)
  bH : Binds K dH ["self", "kinds", "years"] []
  MS : Mk K CS gS
  GS : FnOk P w K mg base (L2.CX P w) 4 gS dS ["self", "room", "seats", "clocks"] (spStand K CS CSB)
  bS : Binds K dS ["self", "room", "seats", "clocks"] []
  bD : Binds K dS ["self", "room", "seats", "clocks"] ds
  rd : Vals [dv] ds
  we : ∃ b, dv = .ref b ∧ IsSeq K (fun _ => none) b [] ∧ ∀ H : Hp, SqT K H b []
  EK : OwnM P w K mg base CK "__eq__" 1 ["self", "other"] (spKEq CK) gEK dEK
  EH : OwnM P w K mg base C "__eq__" 2 ["self", "other"] (spHEq C CK) gEH dEH
  ES : OwnM P w K mg base CS "__eq__" 3 ["self", "other"] (spSEq CS) gES dES
  neK : PySem.W.findIn K (.ref CK) "__ne__" = some (some (.builtin "object.__ne__"))
  neH : PySem.W.findIn K (.ref C) "__ne__" = some (some (.builtin "object.__ne__"))
  neS : PySem.W.findIn K (.ref CS) "__ne__" = some (some (.builtin "object.__ne__"))
  nf : PySem.W.notFirst K C (.ref C) = true
  nfS : PySem.W.notFirst K CS (.ref CS) = true
  MR : Meth K C "renamed" gR
  GR : FnOk P w K mg base (L2.CX P w) 7 gR dR ["self", "names"] (spHRen P w C CK CM)
  bR : Binds K dR ["self", "names"] []
  PP : PropOf K C "persons" pp gP
  GP : FnOk P w K mg base CX0 1 gP dP ["self"] (spPersons1 C CK)
  bP : Binds K dP ["self"] []
  PS : PropOf K CS "persons" ps' gPS
  GPS : FnOk P w K mg base CX0 2 gPS dPS ["self"] (spSPers CS)
  bPS : Binds K dPS ["self"] []
  tH : PySem.W.kitOne K (.ref C) (.type "str") = some false
  tS : PySem.W.kitOne K (.ref CS) (.type "str") = some false
theorem GoodY.yb {ks : List (Str × Int)} {ps : List Str} {ys : List (List (List Str))} (g : GoodY ks ps ys) (gk : GoodK ks) (lab : ∀ y ∈ ps, Lb y) : YB ys :=
  ⟨g.1, fun y hy => ⟨(g.2 y hy).1, fun d hd => ((g.2 y hy).2 d hd).all gk lab⟩⟩
theorem GoodY.sub {ks : List (Str × Int)} {ps : List Str} {ys : List (List (List Str))} (g : GoodY ks ps ys) : ∀ z ∈ allP ys, z ∈ ps := fun z m => by
  obtain ⟨y, hy, m⟩ := List.mem_flatMap.mp m
  obtain ⟨d, hd, m⟩ := List.mem_flatMap.mp m
  obtain ⟨r, _, qs, rfl, _, h⟩ := (g.2 y hy).2 d hd
  exact h z m
/-- what stands all the time -/
structure LG (P : Program) (w : World) (C CK : Addr) (H : Hp) (p q b c g hh nd nm td : Addr) (ks : List (Str × Int)) (ps us : List Str) (ys : List (List (List Str))) (kvs : List (Option Key × V)) (dts : List (PyData × PyData)) : Prop where
  M : Mat H p q b c ks ps
  yt : Ys .tup (wo p H) (.ref g) ys
  hat : HistAt C CK (wo p H) hh ks ys
  nmd : wo p H nd = some (.lst ((persOf ys).map V.str))
  nms : wo p H nm = some (.dK (nmK ps us))
  tld : MapAt P w (wo p H) td kvs
  dp : DP (wo p H) kvs dts
theorem LG.keep {P : Program} {w : World} {C CK p q b c g hh nd nm td : Addr} {H H' : Hp} {ks : List (Str × Int)} {ps us : List Str} {ys : List (List (List Str))} {kvs : List (Option Key × V)} {dts : List (PyData × PyData)} (l : LG P w C CK H p q b c g hh nd nm td ks ps us ys kvs dts) (k : Keep H H' p) (hp : HandAt H' p q) : LG P w C CK H' p q b c g hh nd nm td ks ps us ys kvs dts :=
  ⟨l.M.keep k hp, l.yt.keep (wo_keep k), l.hat.keep (wo_keep k), wo_keep k _ _ l.nmd, wo_keep k _ _ l.nms, l.tld.keep (wo_keep k), l.dp.keep (wo_keep k)⟩
theorem LG.same {P : Program} {w : World} {C CK p q b c g hh nd nm td : Addr} {H H' : Hp} {ks : List (Str × Int)} {ps us : List Str} {ys : List (List (List Str))} {kvs : List (Option Key × V)} {dts : List (PyData × PyData)} (l : LG P w C CK H p q b c g hh nd nm td ks ps us ys kvs dts) (s : Same H H') : LG P w C CK H' p q b c g hh nd nm td ks ps us ys kvs dts :=
  l.keep (Same.keep s) (l.M.hp.same s)
theorem dp_things {H : Hp} {kvs : List (Option Key × V)} {ds : List (PyData × PyData)} (h : DP H kvs ds) : ∀ kv ∈ kvs, ∃ n, Thing H kv.2 n := by
  induction h with
  | nil => intro kv m; cases m
  | cons h t ih =>
    intro kv m
    cases m with
    | head => exact h.2.2.thing
    | tail _ m => exact ih kv m
theorem scal_word (o : Option Str) : scal (wordV o) (wordV o) = true := by cases o <;> rfl
theorem iteNS5 {x y : V} {A B : Prop} (e : x = y) (h : B) : if (!decide (x = y)) = true then A else B := by
  rw [decide_eq_true e]
  exact iteF h
def FoundH (C CK : Addr) (H : Hp) (due : Option Str) (kvs : List (Option Key × V)) (ks : List (Str × Int)) (ys : List (List (List Str))) (v : V) : Prop := match due with
  | some w' => v = .str w'
  | none => ∃ q, v = .ref q ∧ labAll kvs (allP ys) ∧ HistAt C CK H q ks (ledY kvs ys)
theorem neD_ys {K : PySem.W.Frag} {H : Hp} {x y : V} {ys : List (List (List Str))} {Q : VK} (h1 : Ys .tup H x ys) (h2 : Ys .tup H y ys) (o : OkY ys) (q : Q (.bl false) H) : rNeD K x y H Q := by
  refine ⟨dYs ys, dYs ys, h1.dp, h2.dp, shaped_dYs o, shaped_dYs o, ?_⟩
  rw [eqv_dYs, decide_eq_true rfl]
  exact q
theorem yb_map {f : Str → Str} {ys : List (List (List Str))} (b : YB ys) (h : ∀ z ∈ allP ys, isLab (f z) = true) : YB (mapY f ys) := by
  refine ⟨by rw [List.length_map]; exact b.n, fun y' hy' => ?_⟩
  obtain ⟨y, hy, rfl⟩ := List.mem_map.mp hy'
  refine ⟨by rw [List.length_map]; exact (b.m y hy).1, fun d' hd' => ?_⟩
  obtain ⟨d, hd, rfl⟩ := List.mem_map.mp hd'
  obtain ⟨g1, g2, g3⟩ := (b.m y hy).2 d hd
  cases d with
  | nil => cases g1
  | cons z zs =>
    refine ⟨Nat.le_add_left _ _, by show (z :: zs.map f).length ≤ 3; rw [List.length_cons, List.length_map]; exact g2, fun u hu => ?_⟩
    rcases List.mem_cons.mp hu with e | m
    · rw [e]; exact g3 z (.head _)
    · obtain ⟨v, hv, rfl⟩ := List.mem_map.mp m
      exact h v (mem_deedP hy hd hv)
theorem YB.ok {ys : List (List (List Str))} (b : YB ys) : OkY ys := fun y hy d hd z hz => (lab_ok (((b.m y hy).2 d hd).2.2 z hz)).1
theorem ledY_ok {kvs : List (Option Key × V)} {ys : List (List (List Str))} (b : YB ys) (al : labAll kvs (allP ys)) : OkY (ledY kvs ys) := by
  rw [led_mapY al]
  exact (yb_map b fun z m => (al.at_ m).2).ok
theorem nm_thing {ps us : List Str} {H : Hp} (lau : ∀ z ∈ us, isLab z = true) : ∀ kv ∈ sk (nmK ps us), ∃ n, Thing H kv.2 n := fun kv m => by
  obtain ⟨kv', m', rfl⟩ := List.mem_map.mp m
  obtain ⟨⟨z, u⟩, e1, rfl⟩ := List.mem_map.mp m'
  have f : Lb u := lau u (List.of_mem_zip e1).2
  exact ⟨_, str_thing f.fine⟩
theorem shaped_strsT {ws : List Str} (o : ∀ w ∈ ws, PyData.strOk w = true) : SeqAt.shaped (.tuple (ws.map PyData.str)) = true := by
  obtain ⟨a, b⟩ := lay_map (f := PyData.str) (n := 0) (xs := ws) fun z m => ⟨o z m, Nat.le_refl _⟩
  unfold SeqAt.shaped
  rw [Bool.and_eq_true]
  refine ⟨a, decide_eq_true ?_⟩
  show PyData.depthAll (ws.map PyData.str) + 1 ≤ 64
  omega
theorem neD_strsT {K : PySem.W.Frag} {H : Hp} {t u : Addr} {ws xs : List Str} {Q : VK} (h1 : H t = some (.tup (ws.map V.str))) (h2 : H u = some (.tup (xs.map V.str))) (o : ∀ w ∈ ws, PyData.strOk w = true) (o2 : ∀ w ∈ xs, PyData.strOk w = true) (q : Q (.bl (!decide (ws = xs))) H) : rNeD K (.ref t) (.ref u) H Q := by
  refine ⟨.tuple (ws.map PyData.str), .tuple (xs.map PyData.str), .tup (SqT.of h1) (dp_map ws), .tup (SqT.of h2) (dp_map xs), shaped_strsT o, shaped_strsT o2, ?_⟩
  have e : PyData.eqv (.tuple (ws.map PyData.str)) (.tuple (xs.map PyData.str)) = decide (ws = xs) := by
    show PyData.eqvAll (ws.map PyData.str) (xs.map PyData.str) = decide (ws = xs)
    exact eqvAll_map eqv_str ws xs
  rw [e]
  exact q
theorem ne_sameK {CK x y : Addr} {H : Hp} {ks : List (Str × Int)} {Q : VK} (h1 : KindsAt CK H x (vv ks)) (h2 : KindsAt CK H y (vv ks)) (o : OkK ks) (q : Q (.bl false) H) : rNeOwn CK (spKEq CK) E0x (.ref x) (.ref y) H Q := by
  obtain ⟨dx, fs, _, _, _, _, i1, _⟩ := h1.ob
  obtain ⟨dy, gs, _, _, _, _, j1, _⟩ := h2.ob
  refine ⟨x, dx, fs, y, dy, gs, rfl, i1, rfl, j1, _, _, ks, rfl, h1, o, .inl ⟨_, _, rfl, h2, o, _, rfl, ?_⟩⟩
  rw [decide_eq_true (rfl : ks = ks)]
  exact q
theorem lab_strOk {z : Str} (h : isLab z = true) : PyData.strOk z = true := (lab_ok h).1
theorem sub_len {α : Type} [DecidableEq α] : ∀ {l t : List α}, l.Nodup → (∀ x ∈ l, x ∈ t) → l.length ≤ t.length
  | [], _, _, _ => Nat.zero_le _
  | a :: l, t, nd, h => by
    have ha : a ∈ t := h a (.head _)
    rw [List.nodup_cons] at nd
    have ih := sub_len (l := l) (t := t.erase a) nd.2 fun x hx => (List.mem_erase_of_ne (fun e : x = a => nd.1 (by rw [← e]; exact hx))).mpr (h x (.tail _ hx))
    rw [List.length_erase_of_mem ha] at ih
    have := List.length_pos_of_mem ha
    rw [List.length_cons]
    omega
/-- Stand(..) of good things -/
theorem mk_st {K : PySem.W.Frag} {C CB : Addr} {r : Str} {ss : List (Option Str)} {cs : List (Int × Bool)} {y z : V} {Hx : Hp} {Q' : Addr → Hp → Prop} (g : GoodS r ss cs) (hs : SeatsIs K Hx y (some (ss.map oV))) (hc : ClksIs K Hx z (some (cR cs))) (q' : ∀ x H', Hx x = none → Same Hx H' → StandAt C H' x r ss cs → Q' x H') :
    ∀ x dx, Hx x = none → Hx dx = none → dx ≠ x → spStand K C CB [.ref x, .str r, y, z] (upd (upd Hx dx (.own x)) x (.ins C dx [])) (fun v H2 => v = .non ∧ Q' x H2) (fun _ _ _ => False) := by
  intro x dx hx hdx ne
  have s0 : Same Hx (upd (upd Hx dx (.own x)) x (.ins C dx [])) := (sameUpd (Same.refl _) hdx).trans (sameUpd (Same.refl _) (by rw [upd_ne ne.symm]; exact hx))
  exact mk_stand upd_same g (hs.keep s0) (hc.keep s0) fun H' k st => ⟨rfl, q' x H' hx (fun b o e => k b o (s0 b o e) (ne_of_none e hx)) st⟩
theorem ne_stand {C x y : Addr} {H : Hp} {r : Str} {ss : List (Option Str)} {cs : List (Int × Bool)} {Q : VK} (h1 : StandAt C H x r ss cs) (h2 : StandAt C H y r ss cs) (q : ∀ H', Same H H' → Q (.bl false) H') : rNeOwn C (spSEq C) E0x (.ref x) (.ref y) H Q := by
  obtain ⟨dx, _, _, _, i1, _⟩ := h1.ob
  obtain ⟨dy, _, _, _, j1, _⟩ := h2.ob
  refine ⟨x, dx, _, y, dy, _, rfl, i1, rfl, j1, x, .ref y, r, ss, cs, rfl, h1, .inl ⟨y, r, ss, cs, rfl, h2, fun H' s => ⟨_, rfl, ?_⟩⟩⟩
  rw [decide_eq_true ⟨rfl, rfl, rfl⟩]
  exact q H' s
theorem eq_stand {K : PySem.W.Frag} {C x y : Addr} {H : Hp} {r : Str} {ss : List (Option Str)} {cs : List (Int × Bool)} {Q : VK} (nf : PySem.W.notFirst K C (.ref C) = true) (h1 : StandAt C H x r ss cs) (h2 : StandAt C H y r ss cs) (q : ∀ H', Same H H' → Q (.bl true) H') : rEqOwn K C (spSEq C) E0x (.ref x) (.ref y) H Q := by
  obtain ⟨dx, _, _, _, i1, _⟩ := h1.ob
  obtain ⟨dy, _, _, _, j1, _⟩ := h2.ob
  refine ⟨x, dx, _, rfl, i1, .inl ⟨y, dy, _, C, rfl, j1, nf⟩, x, .ref y, r, ss, cs, rfl, h1, .inl ⟨y, r, ss, cs, rfl, h2, fun H' s => ?_⟩⟩
  rw [decide_eq_true ⟨rfl, rfl, rfl⟩]
  exact ⟨_, rfl, q H' s⟩
theorem inV_oV (z : Str) : ∀ l : List (Option Str), inV (.str z) (l.map oV) = decide (some z ∈ l)
  | [] => rfl
  | o :: l => by
    have ih := inV_oV z l
    show (eqV (oV o) (.str z) || inV (.str z) (l.map oV)) = _
    rw [ih]
    cases o with
    | none => simp [oV, eqV]
    | some y =>
      by_cases e : y = z
      · subst e; simp [oV, eqV]
      · have e2 : ¬ z = y := fun q => e q.symm
        simp [oV, eqV, e, e2]
theorem flat_oV (l : List (Option Str)) : (l.map oV).all flatV = true := by
  refine List.all_eq_true.mpr fun z hz => ?_
  obtain ⟨u, _, rfl⟩ := List.mem_map.mp hz
  cases u <;> rfl
theorem sit_take {ss : List (Option Str)} {i : Nat} {o : Option Str} (h : ss[i]? = some o) : sitOf (ss.take (i + 1)) = match o with
    | none => sitOf (ss.take i)
    | some z => add1 (sitOf (ss.take i)) z := by
  have st : (ss.take (i + 1)).filterMap id = (ss.take i).filterMap id ++ o.toList := by
    rw [List.take_add_one, h, List.filterMap_append]
    cases o <;> rfl
  unfold sitOf
  rw [st]
  cases o with
  | none => simp
  | some z => exact addAll_one _ _ z
theorem sit_labs {ss : List (Option Str)} (h : ∀ z, some z ∈ ss → isLab z = true) : ∀ z ∈ sitOf ss, isLab z = true := fun z m => h z (sit_mem.mp m)
def FoundS (CS : Addr) (H : Hp) (due : Option Str) (kvs : List (Option Key × V)) (r : Str) (ss : List (Option Str)) (cs : List (Int × Bool)) (v : V) : Prop := match due with
  | some w' => v = .str w'
  | none => ∃ q, v = .ref q ∧ StandAt CS H q r (ss.map (renO kvs)) cs
theorem StandAt.wo {C : Addr} {H : Hp} {m : Addr} {r : Str} {ss : List (Option Str)} {cs : List (Int × Bool)} {p q : Addr} (h : StandAt C H m r ss cs) (hp : HandAt H p q) : StandAt C (Kx.wo p H) m r ss cs := by
  obtain ⟨c, a, b, d, ha, hb⟩ := hp
  obtain ⟨⟨dx, sa, ca, xs, h1, h2, h3, h4⟩, g⟩ := h
  have off : ∀ {x : Addr} {o : HO}, H x = some o → (∀ l, o ≠ .lst l) → Kx.wo p H x = some o := fun e n => wo_at e fun z => by rw [z, ha] at e; exact n _ (Option.some.inj e).symm
  refine ⟨⟨dx, sa, ca, xs, off h1 (fun l z => nomatch z), off h2 (fun l z => nomatch z), off h3 (fun l z => nomatch z), pr_imp h4 fun x k hk => ?_⟩, g⟩
  obtain ⟨u, e, hu⟩ := hk
  exact ⟨u, e, off hu (fun l z => nomatch z)⟩
abbrev Sg (a p b c g hh nd nm td : Addr) (v9 v10 v11 v12 v13 v14 v15 v16 v17 v18 v19 : Option V) : L2.St := [some (.ref a), some (.ref p), some (.ref b), some (.ref c), some (.ref g), some (.ref hh), some (.ref nd), some (.ref nm), some (.ref td), v9, v10, v11, v12, v13, v14, v15, v16, v17, v18, v19, none, none]
theorem law_body {P : Program} {w : World} {K : PySem.W.Frag} {mg : Str → Option Value} {base : Heap} {fa C CK CS CB CKB CSB CM gK gH gS gR gP gPS gEK gEH gES pp ps' : Addr} {dK dH dS dR dP dPS dEK dEH dES : FuncData} {dv : V} {ds : List Value} (T : Bl mg) (B : Bm mg) (R : Rp mg) (A : All5 P w K mg base C CK CS CB CKB CSB CM gK gH gS gR gP gPS gEK gEH gES pp ps' dK dH dS dR dP dPS dEK dEH dES dv ds) : LawBody P w K mg base NLaw "law" sLaw fa 9 := by
  intro cdv s H a ns hr hS hn'
  obtain ⟨f1, d1, Hd⟩ := A.hand; obtain ⟨f2, d2, D⟩ := A.draw; obtain ⟨f3, d3, O⟩ := A.one; obtain ⟨f4, d4, Ks⟩ := A.kinds; obtain ⟨f5, d5, Pe⟩ := A.persons; obtain ⟨f6, d6, Tl⟩ := A.told; obtain ⟨f7, d7, Tu⟩ := A.tuples
  obtain ⟨f8, d8, Nd⟩ := A.named; obtain ⟨f9, d9, Na⟩ := A.names; obtain ⟨f10, d10, Sp⟩ := A.spoil; obtain ⟨f11, d11, Du⟩ := A.due; obtain ⟨f12, d12, Le⟩ := A.led; obtain ⟨f13, d13, Tr⟩ := A.tried; obtain ⟨f14, d14, MF⟩ := A.mapf
  have hr1 : Room 1 _ := hr.mono (by decide)
  have hr2 : Room 2 _ := hr.mono (by decide)
  have hr3 : Room 3 _ := hr.mono (by decide)
  have hr4 : Room 4 _ := hr.mono (by decide)
  have hr5 : Room 5 _ := hr.mono (by decide)
  have hr6 : Room 6 _ := hr.mono (by decide)
  have hr7 : Room 7 _ := hr.mono (by decide)
  have hr8 : Room 8 _ := hr.mono (by decide)
  have hu := hu_of hr
  refine ⟨_, (pss_cons (ps_set (i := 1) scLaw.nd rfl (Or.inr rfl) (pe_call Hd.G hr1 (by rfl) Hd.m Hd.kp Hd.b .nil pass0 (pa_cons (pv 0) pa_nil)))
    (pss_cons (ps_set (i := 2) scLaw.nd rfl (Or.inl rfl) (pe_op op_cat (pe_call Ks.G hr4 (by rfl) Ks.m Ks.kp Ks.b .nil pass0 (pa_cons (pv 1) pa_nil)) (pe_lst pa_nil)))
    (pss_cons (ps_set (i := 3) scLaw.nd rfl (Or.inr rfl) (pe_call Pe.G hr4 (by rfl) Pe.m Pe.kp Pe.b .nil pass0 (pa_cons (pv 1) pa_nil)))
    (pss_cons (ps_set (i := 4) scLaw.nd rfl (Or.inl rfl) (pe_call Tu.G hr1 (by rfl) Tu.m Tu.kp Tu.b .nil pass0 (pa_cons (pe_call Tl.G hr5 (by rfl) Tl.m Tl.kp Tl.b .nil pass0 (pa_cons (pv 1) (pa_cons (pv 2) (pa_cons (pv 3) pa_nil)))) pa_nil)))
    (C8.pss_cut (ps_set (i := 5) scLaw.nd rfl (Or.inl rfl) (pe_make A.MH A.GH hr5 (by rfl) A.mH A.bH .nil passL (pa_cons (pe_make A.MK A.GK hr4 (by rfl) A.mK A.bK .nil passL (pa_cons (pv 2) pa_nil)) (pa_cons (pv 4) pa_nil))))
    (C8.pss_cut (ps_set (i := 6) scLaw.nd rfl (Or.inl rfl) (pe_call Nd.G hr1 (by rfl) Nd.m Nd.kp Nd.b .nil pass0 (pa_cons (pv 4) pa_nil)))
    (C8.pss_cut (ps_set (i := 7) scLaw.nd rfl (Or.inr rfl) (pe_call Na.G hr4 (by rfl) Na.m Na.kp Na.b .nil pass0 (pa_cons (pv 1) (pa_cons (pv 3) pa_nil))))
    (C8.pss_cut (ps_set (i := 8) scLaw.nd rfl (Or.inr rfl) (pe_call Sp.G hr5 (by rfl) Sp.m Sp.kp Sp.b .nil pass0 (pa_cons (pv 1) (pa_cons (pv 7) (pa_cons (pv 3) pa_nil)))))
    (C8.pss_cut (ps_set (i := 9) scLaw.nd rfl (Or.inl rfl) (pe_callB (call_reprM (P := P) (w := w) rfl rfl rfl hr.units) (by rfl) R.repr (by decide +kernel) (pa_cons (pv 8) pa_nil)))
    (C8.pss_cut (ps_set (i := 10) scLaw.nd rfl (Or.inl rfl) (pe_call Du.G hr4 (by rfl) Du.m Du.kp Du.b .nil pass0 (pa_cons (pv 8) (pa_cons (pv 6) pa_nil))))
    (C8.pss_cut (ps_if (PW.pt (pw_or (pt_cmpR op_ne (pe_call MF.G hr2 (by rfl) MF.m MF.kp MF.b .nil pass0 (pa_cons (pv 8) (pa_cons (pe_prop (pv 5) A.HX.cl A.PP A.GP hr2 A.bP .nil pass0 (by rfl)) pa_nil))) (pv 10) (nomark _)) (pw_or (pt_cmpR op_ne (pe_call MF.G hr2 (by rfl) MF.m MF.kp MF.b .nil pass0 (pa_cons (pv 8) (pa_cons (pe_callTy (call_listX (K := K) rfl) (by rfl) B.list (by decide +kernel) (pa_cons (pv 6) pa_nil)) pa_nil))) (pv 10) (nomark _)) (pw_or1 (pt_cmpR op_ne (pe_callB (call_reprM (P := P) (w := w) rfl rfl rfl hr.units) (by rfl) R.repr (by decide +kernel) (pa_cons (pv 8) pa_nil)) (pv 9) (nomark _)))))) (pss_one ps_never) pss_nil)
    (C8.pss_cut (ps_if (PW.pt (pw_or (pt_cmpR op_ne (pe_call MF.G hr2 (by rfl) MF.m MF.kp MF.b .nil pass0 (pa_cons (pe_lc (own := [("_law_name", 20)]) (g := gName 20) (tt := tYes) (by rfl) scLaw.nd (pi_seq (pv 6)) (blkOk_by (own := [("_law_name", 20)]) (N := NLaw) (sc := defScope sLaw) (by decide +kernel)) (fun _ _ _ _ _ => pg_name (i := 20) scLaw.nd rfl (Or.inl rfl)) (fun _ _ _ _ _ => pts_nil) (fun _ _ _ _ _ => (pe_tup (pa_cons (pv 20) (pa_cons (pv 20) pa_nil))))) (pa_cons (pv 6) pa_nil))) pe_str (nomark _)) (pw_or1 (pt_cmpR op_ne (pe_call Tr.G hr8 (by rfl) Tr.m Tr.kp Tr.b .nil pass0 (pa_cons (pv 5) (pa_cons pe_non pa_nil))) pe_str (nomark _))))) (pss_one ps_never) pss_nil)
    (C8.pss_cut (ps_set (i := 11) scLaw.nd rfl (Or.inl rfl) (pe_call Tr.G hr8 (by rfl) Tr.m Tr.kp Tr.b .nil pass0 (pa_cons (pv 5) (pa_cons (pv 8) pa_nil))))
    (C8.pss_cut (ps_if (PW.pt (pw_or (pt_cmpR op_ne (pe_callB (call_reprM (P := P) (w := w) rfl rfl rfl hr.units) (by rfl) R.repr (by decide +kernel) (pa_cons (pv 8) pa_nil)) (pv 9) (nomark _)) (pw_or1 (PW.pt (pw_and (pt_cmpR op_notN (pv 10) pe_non (nomark _)) (pw_and1 (pt_cmpR op_ne (pv 11) (pv 10) (nomark _)))))))) (pss_one ps_never) pss_nil)
    (C8.pss_cut (ps_if (PW.pt (pw_and (pt_cmpR op_isN (pv 10) pe_non (nomark _)) (pw_and1 (PW.pt (pw_or (pt_val (pe_callB call_isi (by rfl) B.isinstance (by decide +kernel) (pa_cons (pv 11) (pa_cons (pe_bltn (v := .ty "str") (by rfl) B.str (by decide +kernel) rfl) pa_nil)))) (pw_or1 (pt_cmpR (op_neD hr.units) (pe_fld (pv 11) rfl) (pe_call Le.G hr1 (by rfl) Le.m Le.kp Le.b .nil pass0 (pa_cons (pv 4) (pa_cons (pv 8) pa_nil))) (nomark _)))))))) (pss_one ps_never) pss_nil)
    (C8.pss_cut (ps_set (i := 12) scLaw.nd rfl (Or.inl rfl) (pe_meth (pv 5) A.HX.cl A.MR A.GR hr7 A.bR .nil passL (pa_cons (pv 7) pa_nil)))
    (C8.pss_cut (ps_if (PW.pt (pw_or (pt_cmpR (op_neD hr.units) (pe_fld (pv 12) rfl) (pe_call Le.G hr1 (by rfl) Le.m Le.kp Le.b .nil pass0 (pa_cons (pv 4) (pa_cons (pv 7) pa_nil))) (nomark _)) (pw_or (pt_cmpR (op_neD hr.units) (pe_prop (pv 12) A.HX.cl A.PP A.GP hr2 A.bP .nil pass0 (by rfl)) (pe_callTy call_tuple_of (by rfl) B.tuple (by decide +kernel) (pa_cons (pe_lc (own := [("_law_person", 13)]) (g := gName 13) (tt := tYes) (by rfl) scLaw.nd (pi_seq (pv 6)) (blkOk_by (own := [("_law_person", 13)]) (N := NLaw) (sc := defScope sLaw) (by decide +kernel)) (fun _ _ _ _ _ => pg_name (i := 13) scLaw.nd rfl (Or.inl rfl)) (fun _ _ _ _ _ => pts_nil) (fun _ _ _ _ _ => (pe_mget (P := P) (w := w) rfl rfl (pv 7) (pv 13) (fun _ _ => rfl)))) pa_nil)) (nomark _)) (pw_or1 (pt_cmpR (op_neOwn A.KX.cm A.neK A.EK.M.at_ A.EK.M.fn A.EK.raw hr2 pass0) (pe_fld (pv 12) rfl) (pe_fld (pv 5) rfl) (nomark _)))))) (pss_one ps_never) pss_nil)
    (C8.pss_cut (ps_set (i := 14) scLaw.nd rfl (Or.inl rfl) pe_dnewK)
    (C8.pss_cut (ps_lock (ps_for PassesOwn.never rfl (pi_keys (pv 7)) (pg_name (i := 13) scLaw.nd rfl (.inl rfl)) (pss_one (ps_dput hu (pv 14) (pe_dget hu (pv 7) (pv 13) (fun _ _ => rfl)) (pv 13) rfl))))
    (C8.pss_cut (ps_if (PW.pt (pw_or (pt_cmpR (op_neOwn A.HX.cm A.neH A.EH.M.at_ A.EH.M.fn A.EH.raw hr3 pass0) (pe_meth (pv 12) A.HX.cl A.MR A.GR hr7 A.bR .nil passL (pa_cons (pv 14) pa_nil)) (pv 5) (nomark _)) (pw_or1 (pt_cmpR op_ne (pe_cmpR (op_eqOwn A.EH.M.at_ A.EH.M.fn A.EH.raw hr2 pass0) (pv 12) (pv 5) (nomark _)) (pe_cmpR (op_eqD hr.units) (pe_call Le.G hr1 (by rfl) Le.m Le.kp Le.b .nil pass0 (pa_cons (pv 4) (pa_cons (pv 7) pa_nil))) (pv 4) (nomark _)) (nomark _))))) (pss_one ps_never) pss_nil)
    (C8.pss_cut (ps_set (i := 15) scLaw.nd rfl (Or.inl rfl) (pe_ifExp (pt_cmpR (op_neD hr.units) (pe_prop (pv 12) A.HX.cl A.PP A.GP hr2 A.bP .nil pass0 (by rfl)) (pe_tup pa_nil) (nomark _)) (pe_call Na.G hr4 (by rfl) Na.m Na.kp Na.b .nil pass0 (pa_cons (pv 1) (pa_cons (pe_prop (pv 12) A.HX.cl A.PP A.GP hr2 A.bP .nil pass0 (by rfl)) pa_nil))) pe_dnewK))
    (C8.pss_cut (ps_set (i := 16) scLaw.nd rfl (Or.inl rfl) pe_dnewK)
    (C8.pss_cut (ps_for PassesOwn.never rfl (pi_seq (pv 6)) (pg_name (i := 13) scLaw.nd rfl (.inl rfl)) (pss_one (ps_dput hu (pv 16) (pv 13) (pe_dget hu (pv 15) (pe_dget hu (pv 7) (pv 13) (fun _ _ => rfl)) (fun _ _ => rfl)) rfl)))
    (C8.pss_cut (ps_if (pt_cmpR (op_neOwn A.HX.cm A.neH A.EH.M.at_ A.EH.M.fn A.EH.raw hr3 pass0) (pe_meth (pv 12) A.HX.cl A.MR A.GR hr7 A.bR .nil passL (pa_cons (pv 15) pa_nil)) (pe_meth (pv 5) A.HX.cl A.MR A.GR hr7 A.bR .nil passL (pa_cons (pv 16) pa_nil)) (nomark _)) (pss_one ps_never) pss_nil)
    (C8.pss_cut (ps_set (i := 17) scLaw.nd rfl (Or.inr rfl) (pe_lc (own := [("_law_k", 21)]) (g := gName 21) (tt := tYes) (by rfl) scLaw.nd (pi_range1 (by rfl) T.range (pa_cons (pe_op op_add pe_int (pe_call D.G hr2 (by rfl) D.m D.kp D.b .nil pass0 (pa_cons (pv 1) (pa_cons pe_int pa_nil)))) pa_nil)) (blkOk_by (own := [("_law_k", 21)]) (N := NLaw) (sc := defScope sLaw) (by decide +kernel)) (fun _ _ _ _ _ => pg_name (i := 21) scLaw.nd rfl (Or.inl rfl)) (fun _ _ _ _ _ => pts_nil) (fun _ _ _ _ _ => (pe_call O.G hr3 (by rfl) O.m O.kp O.b .nil pass0 (pa_cons (pv 1) (pa_cons (pe_op op_cat (pe_lst (pa_cons pe_non pa_nil)) (pv 3)) pa_nil))))))
    (C8.pss_cut (ps_set (i := 18) scLaw.nd rfl (Or.inl rfl) (pe_make A.MS A.GS hr5 (by rfl) A.mS A.bS .nil passL (pa_cons pe_str (pa_cons (pv 17) (pa_cons (pe_lst (pa_cons (pe_tup (pa_cons (pe_call D.G hr2 (by rfl) D.m D.kp D.b .nil pass0 (pa_cons (pv 1) (pa_cons pe_int pa_nil))) (pa_cons (pe_cmpR op_eq (pe_call D.G hr2 (by rfl) D.m D.kp D.b .nil pass0 (pa_cons (pv 1) (pa_cons pe_int pa_nil))) pe_int (nomark _)) pa_nil))) pa_nil)) pa_nil)))))
    (C8.pss_cut (ps_setLc (i := 19) (own := [("_law_k", 21), ("_law_person", 13)]) (g := gTup K 2 (gCons (gName 21) (gCons (gName 13) gNil))) (by rfl) scLaw.nd rfl rfl (sw_true rfl rfl rfl (by decide +kernel)) (pi_enumB (by rfl) T.enumerate (pa_cons (pv 17) pa_nil)) (blkOk_by (own := [("_law_k", 21), ("_law_person", 13)]) (N := NLaw) (sc := defScope sLaw) (by decide +kernel))
      (fun _ _ _ _ _ => pg_tup rfl (pgs_cons (pg_name scLaw.nd rfl (.inl rfl)) (pgs_cons (pg_name scLaw.nd rfl (.inl rfl)) pgs_nil))) (fun _ _ _ _ _ => pts_one (t := tAnd (tTest (tOp (fun x y H Q => y = V.non ∧ Q (.bl (!decide (x = .non))) H) (tVar 13) (tC V.non))) (tTest (tOp (rIn K true) (tVar 13) (tSl (rSlL K) (tVar 17) tNoPart (tPart (tVar 21)))))) (PW.pt (pw_and (pt_cmpR op_notN (pv 13) pe_non (nomark _)) (pw_and1 (pt_cmpR (X := _) op_notIn_seq (pv 13) (pe_slice sl_list (pv 17) po_none (po_some (pv 21))) (by rfl)))))) (fun _ _ _ _ _ => (pv 13)))
    (C8.pss_cut (ps_if (PW.pt (pw_or (pt_cmpR (op_neD hr.units) (pe_prop (pv 18) A.SX.cl A.PS A.GPS hr3 A.bPS .nil pass0 (by rfl)) (pe_callTy call_tuple_of (by rfl) B.tuple (by decide +kernel) (pa_cons (pv 19) pa_nil)) (nomark _)) (pw_or1 (pt_cmpR (op_neOwn A.SX.cm A.neS A.ES.M.at_ A.ES.M.fn A.ES.raw hr4 pass0) (pe_call Tr.G hr8 (by rfl) Tr.m Tr.kp Tr.b .nil pass0 (pa_cons (pe_make A.MS A.GS hr5 (by rfl) A.mS A.bD A.rd passL (pa_cons pe_str (pa_cons (pe_lst (pa_cons pe_non pa_nil)) pa_nil))) (pa_cons pe_dnewK pa_nil))) (pe_make A.MS A.GS hr5 (by rfl) A.mS A.bD A.rd passL (pa_cons pe_str (pa_cons (pe_lst (pa_cons pe_non pa_nil)) pa_nil))) (nomark _))))) (pss_one ps_never) pss_nil)
    (C8.pss_cut (ps_set (i := 10) scLaw.nd rfl (Or.inl rfl) (pe_call Du.G hr4 (by rfl) Du.m Du.kp Du.b .nil pass0 (pa_cons (pv 8) (pa_cons (pv 19) pa_nil))))
    (C8.pss_cut (ps_set (i := 11) scLaw.nd rfl (Or.inl rfl) (pe_call Tr.G hr8 (by rfl) Tr.m Tr.kp Tr.b .nil pass0 (pa_cons (pv 18) (pa_cons (pv 8) pa_nil))))
    (C8.pss_cut (ps_if (pt_cmpR op_notN (pv 10) pe_non (nomark _)) (pss_one (ps_ret (pe_cmpR op_eq (pv 11) (pv 10) (nomark _)))) pss_nil)
    (pss_one (ps_ret (pe_and (pe_not (pe_callB call_isi (by rfl) B.isinstance (by decide +kernel) (pa_cons (pv 11) (pa_cons (pe_bltn (v := .ty "str") (by rfl) B.str (by decide +kernel) rfl) pa_nil)))) (pe_one (pe_cmpR (op_eqOwn A.ES.M.at_ A.ES.M.fn A.ES.raw hr3 pass0) (pv 11) (pe_make A.MS A.GS hr5 (by rfl) A.mS A.bS .nil passL (pa_cons pe_str (pa_cons (pe_lc (own := [("_law_person", 13)]) (g := gName 13) (tt := tYes) (by rfl) scLaw.nd (pi_seq (pv 17)) (blkOk_by (own := [("_law_person", 13)]) (N := NLaw) (sc := defScope sLaw) (by decide +kernel)) (fun _ _ _ _ _ => pg_name (i := 13) scLaw.nd rfl (Or.inl rfl)) (fun _ _ _ _ _ => pts_nil)
      (fun _ _ _ _ _ => pe_ifExp (pt_cmpR op_isN (pv 13) pe_non (nomark _)) pe_non (pe_mget (P := P) (w := w) rfl rfl (pv 8) (pv 13) (fun _ _ => rfl)))) (pa_cons (pe_fld (pv 18) rfl) pa_nil)))) (nomark _))))))))))))))))))))))))))))))))))))), ?_⟩
  refine ⟨_, rfl, a, ns, rfl, hS, hn', fun p q H1 hp0 hq0 nqp hp1 s1 => ?_⟩
  refine ⟨_, rfl, p, q, rfl, hp1, fun b0 ks H2 gk gl0 hb0 hp2 k2 => ?_⟩
  refine ⟨Nat.zero_le _, fun l0 hl0 => ?_⟩
  obtain ⟨xr, hxr, itr⟩ := gl0
  have s3 : Same H2 (upd H2 l0 (.lst [])) := sameUpd (Same.refl _) hl0
  have lxr : xr.length ≤ 6 := by rw [itr.1]; exact gk.hi
  refine ⟨b0, l0, xr, [], rfl, rfl, s3 _ _ (wo_same _ _ hxr), upd_same, (by simp; exact Nat.le_of_lt (small1000 (by omega))), fun b hb => ?_⟩
  rw [List.append_nil]
  have s4 : Same H2 (upd (upd H2 l0 (.lst [])) b (.lst xr)) := sameUpd s3 hb
  have hp4 := hp2.same s4
  have gl : GoodL (wo p (upd (upd H2 l0 (.lst [])) b (.lst xr))) b ks := ⟨xr, wo_at upd_same (hp2.same s3 |>.ap hb), itr.keep (wo_mono s4)⟩
  generalize upd (upd H2 l0 (.lst [])) b (.lst xr) = H4 at s4 hp4 gl
  clear itr hxr lxr s3 hb hl0 hp2 k2
  refine ⟨_, rfl, p, q, rfl, hp4, fun c ps H5 hc ne few lab nodup hp5 k5 => ?_⟩
  have M5 : Mat H5 p q b c ks ps := ⟨hp5, gl.keep (wo_keep k5), gk, hc, ne, few, lab⟩
  clear gl hp4 s4 k5 hc
  refine ⟨_, rfl, _, rfl, _, rfl, p, q, b, c, ks, ps, rfl, M5, fun g0 ys H6 yg gy hg0 hp6 k6 => ?_⟩
  have fewY := gy.few gk lab
  have dueY := gy.due gk lab
  have yb := gy.yb gk lab
  have M6 := M5.keep k6 hp6
  obtain ⟨xs0, hx0, px0⟩ := yg.few
  refine ⟨g0, xs0, ys, rfl, wo_same _ _ hx0, pr_imp px0 fun _ _ h => ?_, by have := gy.1; omega, fun y hy => by have := (gy.2 y hy).1; omega, fun g H7 hg s7 yt7 => ?_⟩
  · obtain ⟨c', zs, e, hc', pz⟩ := h.keep wo_same
    exact ⟨c', zs, e, hc', pr_imp pz fun _ _ q => .inl q⟩
  have M7 := M6.keep (Same.keep s7) (M6.hp.same s7)
  clear M5 k6 M6 yg hx0 px0 hp6
  refine ⟨fun σ H => ∃ hh, σ = [some (.ref a), some (.ref p), some (.ref b), some (.ref c), some (.ref g), some (.ref hh), none, none, none, none, none, none, none, none, none, none, none, none, none, none, none, none] ∧ Mat H p q b c ks ps ∧ Ys .tup (wo p H) (.ref g) ys ∧ HistAt C CK (wo p H) hh ks ys, ?_, ?_⟩
  · --[
    refine ⟨_, rfl, ?_⟩
    refine mk_kinds gk (M7.gl.keep wo_same) fun kp H8 _ s8 kd => ?_
    refine ⟨_, rfl, mk_hist kd gk.kb ((yt7.keep s8).years (.inr rfl) fewY) dueY fun hh H9 _ s9 hat => ?_⟩
    have s79 := s8.trans s9
    have M9 := M7.keep (Same.keep s79) (M7.hp.same s79)
    exact ⟨hh, rfl, M9, (yt7.keep s79).wo M9.hp, hat.wo M9.hp⟩
    --]
  clear M7 yt7 s7
  rintro σ H8 ⟨hh, rfl, M8, yt8, hat8⟩
  have pl := yb.pers
  have pl2 : (persOf ys).length ≤ 64 := Nat.le_trans persLen pl
  -- named
  refine ⟨fun σ H => ∃ nd, σ = [some (.ref a), some (.ref p), some (.ref b), some (.ref c), some (.ref g), some (.ref hh), some (.ref nd), none, none, none, none, none, none, none, none, none, none, none, none, none, none, none] ∧ Mat H p q b c ks ps ∧ Ys .tup (wo p H) (.ref g) ys ∧ HistAt C CK (wo p H) hh ks ys ∧ wo p H nd = some (.lst ((persOf ys).map V.str)), ?_, ?_⟩
  · exact ⟨_, rfl, .ref g, ys, rfl, yt8.keep wo_same, yb, fun nd H9 hnd s9 hnd' => ⟨nd, rfl, M8.keep (Same.keep s9) (M8.hp.same s9), yt8.keep (wo_mono s9), hat8.keep (wo_mono s9), wo_at hnd' (M8.hp.ap hnd)⟩⟩
  clear M8 yt8 hat8
  rintro σ H9 ⟨nd, rfl, M9, yt9, hat9, nd9⟩
  -- names
  refine ⟨fun σ H => ∃ nm us, σ = [some (.ref a), some (.ref p), some (.ref b), some (.ref c), some (.ref g), some (.ref hh), some (.ref nd), some (.ref nm), none, none, none, none, none, none, none, none, none, none, none, none, none, none] ∧ Mat H p q b c ks ps ∧ Ys .tup (wo p H) (.ref g) ys ∧ HistAt C CK (wo p H) hh ks ys ∧ wo p H nd = some (.lst ((persOf ys).map V.str)) ∧ wo p H nm = some (.dK (nmK ps us)) ∧ us.length = ps.length ∧ us.Nodup ∧ ∀ u ∈ us, isLab u = true, ?_, ?_⟩
  · exact ⟨_, rfl, _, rfl, p, q, c, ps, rfl, M9.hp, .lst M9.hc, M9.ne, M9.few, lab, nodup, fun nm us H10 hnm nms lu und lau hp10 k10 => ⟨nm, us, rfl, M9.keep k10 hp10, yt9.keep (wo_keep k10), hat9.keep (wo_keep k10), wo_keep k10 _ _ nd9, nms, lu, und, lau⟩⟩
  clear M9 yt9 hat9 nd9
  rintro σ H10 ⟨nm, us, rfl, M10, yt10, hat10, nd10, nm10, lu, und, lau⟩
  -- told
  refine ⟨fun σ H => ∃ td kvs dts, σ = Sg a p b c g hh nd nm td none none none none none none none none none none none ∧ LG P w C CK H p q b c g hh nd nm td ks ps us ys kvs dts ∧ kvs.length ≤ 12, ?_, ?_⟩
  · exact ⟨_, rfl, _, rfl, _, rfl, p, q, nm, c, ps, us, rfl, M10.hp, nm10, M10.hc, M10.ne, M10.few, lu, lab, lau, nodup, fun td kvs dts H11 htd tld dp l12 hp11 k11 => ⟨td, kvs, dts, rfl, ⟨M10.keep k11 hp11, yt10.keep (wo_keep k11), hat10.keep (wo_keep k11), wo_keep k11 _ _ nd10, wo_keep k11 _ _ nm10, tld, dp⟩, l12⟩⟩
  clear M10 yt10 hat10 nd10 nm10
  rintro σ H11 ⟨td, kvs, dts, rfl, L11, l12⟩
  generalize hkept : PyData.shown (.dict dts) = kept at *
  -- kept
  refine ⟨fun σ H => σ = Sg a p b c g hh nd nm td (some (.str kept)) none none none none none none none none none none ∧ LG P w C CK H p q b c g hh nd nm td ks ps us ys kvs dts, ?_, ?_⟩
  · refine ⟨_, rfl, td, kvs, dts, rfl, L11.tld.keep wo_same, L11.dp.keep wo_same, l12, ?_⟩
    rw [hkept]
    exact ⟨rfl, L11⟩
  clear L11
  rintro σ H12 ⟨rfl, L12⟩
  generalize hdue : mapDue (some kvs) (persOf ys) = due at *
  -- due
  refine ⟨fun σ H => σ = Sg a p b c g hh nd nm td (some (.str kept)) (some (wordV due)) none none none none none none none none none ∧ LG P w C CK H p q b c g hh nd nm td ks ps us ys kvs dts, ?_, ?_⟩
  · refine ⟨_, rfl, _, rfl, td, nd, kvs, persOf ys, rfl, L12.tld.keep wo_same, dp_things (L12.dp.keep wo_same), wo_same _ _ L12.nmd, by omega, fun H13 s13 => ?_⟩
    rw [hdue]
    exact ⟨rfl, L12.same s13⟩
  clear L12
  rintro σ H13 ⟨rfl, L13⟩
  -- map_fault says the same
  refine ⟨fun σ H => σ = Sg a p b c g hh nd nm td (some (.str kept)) (some (wordV due)) none none none none none none none none none ∧ LG P w C CK H p q b c g hh nd nm td ks ps us ys kvs dts, ?_, ?_⟩
  · have hat := L13.hat.keep wo_same
    obtain ⟨dx, fs, kp, yt, h1, h2, h3, h4, h5, h6⟩ := hat.ob
    have nis : ∀ {H' : Hp}, Same H13 H' → NamesIs P w H' (.ref td) (some kvs) := fun s => .dct ((L13.tld.keep wo_same).keep s) (dp_things ((L13.dp.keep wo_same).keep s))
    refine ⟨_, rfl, _, rfl, hh, dx, _, rfl, h1, hh, ks, ys, rfl, hat, yb.ne, by omega, fun q1 H14 s14 _ hq1 => ?_⟩
    refine ⟨.ref td, some kvs, q1, persOf ys, rfl, nis s14, .tup hq1, by omega, fun H15 s15 => ?_⟩
    rw [hdue]
    refine ⟨_, rfl, scal_word _, _, rfl, iteNS5 rfl ?_⟩
    have s1415 := s14.trans s15
    refine ⟨_, rfl, _, rfl, nd, _, rfl, .inl (SqL.of (s1415 _ _ (wo_same _ _ L13.nmd))), fun l hl => ?_⟩
    have s16 := sameUpd (o := .lst ((persOf ys).map V.str)) s1415 hl
    refine ⟨.ref td, some kvs, l, persOf ys, rfl, nis s16, .lst upd_same, by omega, fun H17 s17 => ?_⟩
    rw [hdue]
    refine ⟨_, rfl, scal_word _, _, rfl, iteNS5 rfl ?_⟩
    have s := s16.trans s17
    refine ⟨_, rfl, td, kvs, dts, rfl, (L13.tld.keep wo_same).keep s, (L13.dp.keep wo_same).keep s, l12, ?_⟩
    rw [hkept]
    exact ⟨_, rfl, rfl, _, rfl, iteNS5 rfl ⟨rfl, L13.same s⟩⟩
  clear L13
  rintro σ H14 ⟨rfl, L14⟩
  -- no map
  refine ⟨fun σ H => σ = Sg a p b c g hh nd nm td (some (.str kept)) (some (wordV due)) none none none none none none none none none ∧ LG P w C CK H p q b c g hh nd nm td ks ps us ys kvs dts, ?_, ?_⟩
  · refine ⟨_, rfl, nd, rfl, lc_pure (g := gName 20) (fun _ _ _ => True) (fun _ _ _ _ _ _ => True.intro) (IsSeq.lst (wo_same _ _ L14.nmd)) (Same.refl _) (by rw [List.length_map]; omega) ?_ ?_ fun x σ H Q Q' q z => q _ _ z⟩
    · rintro D i x H3 k' hi hD s3 ⟨acc, hacc⟩ kk
      exact ⟨rfl, _, rfl, _, rfl, (by show 2 ≤ sizeLine; decide), fun t ht => kk _ _ (sameUpd (Same.refl _) ht) True.intro⟩
    · intro D zs H3 hD s3 hd3 lz3 g3
      refine ⟨_, rfl, .ref D, none, nd, persOf ys, rfl, .oth (.lst _ _ hd3) (by decide), .lst (s3 _ _ (wo_same _ _ L14.nmd)), by omega, fun H15 s15 => ?_⟩
      refine ⟨rfl, _, rfl, iteNS5 rfl ?_⟩
      have s := s3.trans s15
      refine ⟨_, rfl, .inl ⟨hh, .non, none, ks, ys, rfl, (L14.hat.keep wo_same).keep s, gk.kb, yb, .oth .non (by decide), fun H16 s16 => ?_⟩⟩
      exact ⟨rfl, _, rfl, iteNS5 rfl ⟨rfl, L14.same (s.trans s16)⟩⟩
  clear L14
  rintro σ H15 ⟨rfl, L15⟩
  -- the history renamed, or refused
  refine ⟨fun σ H => ∃ v11, σ = Sg a p b c g hh nd nm td (some (.str kept)) (some (wordV due)) (some v11) none none none none none none none none ∧ LG P w C CK H p q b c g hh nd nm td ks ps us ys kvs dts ∧ FoundH C CK (wo p H) due kvs ks ys v11, ?_, ?_⟩
  · refine ⟨_, rfl, _, rfl, .inl ⟨hh, .ref td, some kvs, ks, ys, rfl, L15.hat.keep wo_same, gk.kb, yb, .dct (L15.tld.keep wo_same) (dp_things (L15.dp.keep wo_same)), ?_⟩⟩
    rw [hdue]
    cases due with
    | some w' => exact fun H16 s16 => ⟨.str w', rfl, L15.same s16, rfl⟩
    | none =>
      intro q' kvs' H16 e al hq s16 hat'
      cases e
      exact ⟨.ref q', rfl, L15.same s16, q', rfl, al, hat'.wo (L15.M.hp.same s16)⟩
  clear L15
  rintro σ H16 ⟨v11, rfl, L16, fh16⟩
  -- the map is as it was
  refine ⟨fun σ H => σ = Sg a p b c g hh nd nm td (some (.str kept)) (some (wordV due)) (some v11) none none none none none none none none ∧ LG P w C CK H p q b c g hh nd nm td ks ps us ys kvs dts ∧ FoundH C CK (wo p H) due kvs ks ys v11, ?_, ?_⟩
  · refine ⟨_, rfl, td, kvs, dts, rfl, L16.tld.keep wo_same, L16.dp.keep wo_same, l12, ?_⟩
    rw [hkept]
    refine ⟨_, rfl, rfl, _, rfl, iteNS5 rfl ?_⟩
    refine ⟨_, rfl, rfl, _, rfl, ?_⟩
    cases due with
    | none => exact iteF (iteF ⟨rfl, L16, fh16⟩)
    | some w' =>
      have e : v11 = .str w' := fh16
      subst e
      refine iteT ⟨_, rfl, _, rfl, rfl, _, rfl, iteNS5 rfl ⟨rfl, L16, fh16⟩⟩
  clear L16 fh16
  rintro σ H17 ⟨rfl, L17, fh17⟩
  have okY : OkY ys := fewY.ok
  have okK : OkK ks := gk.ok
  -- its years
  refine ⟨fun σ H => σ = Sg a p b c g hh nd nm td (some (.str kept)) (some (wordV due)) (some v11) none none none none none none none none ∧ LG P w C CK H p q b c g hh nd nm td ks ps us ys kvs dts, ?_, ?_⟩
  · refine ⟨_, rfl, rfl, _, rfl, ?_⟩
    cases due with
    | some w' => exact iteF (iteF ⟨rfl, L17⟩)
    | none =>
      obtain ⟨q', rfl, al, hat'⟩ := fh17
      have hat2 := hat'.keep wo_same
      obtain ⟨dx, fs, kp, yt, h1, h2, h3, h4, h5, h6⟩ := hat2.ob
      refine iteT ⟨_, rfl, _, _, _, _, _, rfl, .ty _, A.HX.ty h1, A.tH, _, rfl, iteF ?_⟩
      refine ⟨_, rfl, q', C, dx, fs, _, rfl, h1, A.HX.cl, A.HX.nY, h3, ?_⟩
      refine ⟨_, rfl, _, rfl, .ref g, td, kvs, ys, rfl, L17.yt.keep wo_same, yb, L17.tld.keep wo_same, al, fun t H18 ht s18 yst => ?_⟩
      exact neD_ys (h6.keep s18) yst (ledY_ok yb al) ⟨_, rfl, iteF ⟨rfl, L17.same s18⟩⟩
  clear L17 fh17
  rintro σ H18 ⟨rfl, L18⟩
  -- where the names lead
  have alN : labAll (sk (nmK ps us)) ps := nm_lab lu nodup lau
  have injN := nm_inj lu nodup und
  have backN : ∀ z ∈ ps, mp (sk (nmK us ps)) (mp (sk (nmK ps us)) z) = z := fun z m => nm_back lu nodup und m
  have toUs : ∀ z ∈ ps, mp (sk (nmK ps us)) z ∈ us := fun z m => by
    obtain ⟨i, hi⟩ := List.mem_iff_getElem?.mp m
    have li : i < us.length := by rw [lu]; exact (List.getElem?_eq_some_iff.mp hi).1
    rw [nm_mp nodup hi (List.getElem?_eq_getElem li)]
    exact List.getElem_mem li
  have alB : labAll (sk (nmK us ps)) us := nm_lab lu.symm und lab
  have injB := nm_inj lu.symm und nodup
  have alP : labAll (sk (nmK ps us)) (allP ys) := alN.sub gy.sub
  have injP := injN.sub gy.sub
  have ledE := led_mapY alP
  have perS : ∀ z ∈ persOf ys, z ∈ ps := fun z m => gy.sub z (pers_mem.mp m)
  have due1 : mapDue (some (sk (nmK ps us))) (persOf ys) = none := map_good (alN.sub perS) (pers_nd ys) (injN.sub perS)
  have perE := pers_map injP
  have ybM := yb_map (f := mp (sk (nmK ps us))) yb fun z m => (alP.at_ m).2
  have atN : ∀ z ∈ ps, valV (sk (nmK ps us)) (some (Sum.inr z)) = some (.str (mp (sk (nmK ps us)) z)) := fun z m => (alN.at_ m).1
  obtain ⟨f, hf⟩ : ∃ f, mp (sk (nmK ps us)) = f := ⟨_, rfl⟩
  rw [hf] at injN backN toUs injP ledE perE ybM atN
  have pokP : ∀ z ∈ persOf ys, PyData.strOk z = true := fun z m => lab_strOk (lab z (perS z m))
  have pokM : ∀ z ∈ (persOf ys).map f, PyData.strOk z = true := fun z m => by
    obtain ⟨y, my, rfl⟩ := List.mem_map.mp m
    exact lab_strOk (lau _ (toUs y (perS y my)))
  -- moved
  refine ⟨fun σ H => ∃ mv, σ = Sg a p b c g hh nd nm td (some (.str kept)) (some (wordV due)) (some v11) (some (.ref mv)) none none none none none none none ∧ LG P w C CK H p q b c g hh nd nm td ks ps us ys kvs dts ∧ HistAt C CK (wo p H) mv ks (mapY f ys), ?_, ?_⟩
  · have hat := L18.hat.keep wo_same
    obtain ⟨dx, fs, kp, yt, h1, h2, h3, h4, h5, h6⟩ := hat.ob
    refine ⟨_, rfl, hh, dx, fs, rfl, h1, h4 _ (by decide +kernel) (by decide +kernel), _, rfl, hh, .ref nm, some (sk (nmK ps us)), ks, ys, rfl, hat, gk.kb, yb, .dct (.inl ⟨_, wo_same _ _ L18.nms, rfl⟩) (nm_thing lau), ?_⟩
    rw [due1]
    intro mv kvs' H19 e al hq s19 hat'
    cases e
    rw [ledE] at hat'
    exact ⟨mv, rfl, L18.same s19, hat'.wo (L18.M.hp.same s19)⟩
  clear L18
  rintro σ H19 ⟨mv, rfl, L19, mv19⟩
  -- its years, persons, kinds
  refine ⟨fun σ H => σ = Sg a p b c g hh nd nm td (some (.str kept)) (some (wordV due)) (some v11) (some (.ref mv)) none none none none none none none ∧ LG P w C CK H p q b c g hh nd nm td ks ps us ys kvs dts ∧ HistAt C CK (wo p H) mv ks (mapY f ys), ?_, ?_⟩
  · have hat := L19.hat.keep wo_same
    have hat2 := mv19.keep wo_same
    obtain ⟨dx, fs, kp, yt, h1, h2, h3, h4, h5, h6⟩ := hat.ob
    obtain ⟨dx', fs', kp', yt', g1, g2, g3, g4, g5, g6⟩ := hat2.ob
    refine ⟨_, rfl, mv, C, dx', fs', _, rfl, g1, A.HX.cl, A.HX.nY, g3, ?_⟩
    refine ⟨_, rfl, _, rfl, .ref g, nm, sk (nmK ps us), ys, rfl, L19.yt.keep wo_same, yb, .inl ⟨_, wo_same _ _ L19.nms, rfl⟩, alP, fun t H20 ht s20 yst => ?_⟩
    rw [ledE] at yst
    refine neD_ys (g6.keep s20) yst ybM.ok ⟨_, rfl, iteF ?_⟩
    refine ⟨_, rfl, mv, dx', _, rfl, s20 _ _ g1, mv, ks, mapY f ys, rfl, hat2.keep s20, ybM.ne, by have := ybM.pers; omega, fun q1 H21 s21 _ hq1 => ?_⟩
    rw [perE] at hq1
    have s201 := s20.trans s21
    refine ⟨_, rfl, nd, rfl, lc_led (P := P) (w := w) (K := K) (i := 13) (kvs := sk (nmK ps us)) (.inl ⟨_, s201 _ _ (wo_same _ _ L19.nms), rfl⟩) (IsSeq.lst (s201 _ _ (wo_same _ _ L19.nmd))) (by omega) (alN.sub perS) (fun z u H5 k5 hm ev kq => ⟨rfl, _, rfl, _, rfl, nm, _, z, _, rfl, rfl, hm, ev, kq⟩) fun D H22 hD s22 hd22 => ?_⟩
    rw [led_map (alN.sub perS), hf] at hd22
    refine ⟨D, _, rfl, .inl ⟨SqL.of hd22, fun l hl => ?_⟩⟩
    have s23 := sameUpd (o := .tup (((persOf ys).map f).map V.str)) (s201.trans s22) hl
    refine neD_strsT (ws := (persOf ys).map f) (xs := (persOf ys).map f) (sameUpd s22 hl _ _ hq1) upd_same pokM pokM ?_
    rw [decide_eq_true rfl]
    refine ⟨_, rfl, iteF ?_⟩
    refine ⟨_, rfl, mv, C, dx', fs', _, rfl, s23 _ _ g1, A.HX.cl, A.HX.nK, g2, _, rfl, hh, C, dx, fs, _, rfl, s23 _ _ h1, A.HX.cl, A.HX.nK, h2, ?_⟩
    exact ne_sameK (g5.keep s23) (h5.keep s23) okK ⟨_, rfl, iteF ⟨rfl, L19.same s23, mv19.keep (wo_mono s23)⟩⟩
  clear L19 mv19
  rintro σ H20 ⟨rfl, L20, mv20⟩
  -- back
  refine ⟨fun σ H => ∃ bk H0, σ = Sg a p b c g hh nd nm td (some (.str kept)) (some (wordV due)) (some v11) (some (.ref mv)) none (some (.ref bk)) none none none none none ∧ H = upd H0 bk (.dK []) ∧ H0 bk = none ∧ LG P w C CK H0 p q b c g hh nd nm td ks ps us ys kvs dts ∧ HistAt C CK (wo p H0) mv ks (mapY f ys), ?_, ?_⟩
  · exact fun bk hbk => ⟨bk, H20, rfl, rfl, hbk, L20, mv20⟩
  clear L20 mv20
  rintro σ H21 ⟨bk, H20, rfl, rfl, hbk, L20, mv20⟩
  refine ⟨fun σ H => ∃ v13, σ = Sg a p b c g hh nd nm td (some (.str kept)) (some (wordV due)) (some v11) (some (.ref mv)) v13 (some (.ref bk)) none none none none none ∧ LG P w C CK H p q b c g hh nd nm td ks ps us ys kvs dts ∧ HistAt C CK (wo p H) mv ks (mapY f ys) ∧ wo p H bk = some (.dK (nmK us ps)), ?_, ?_⟩
  · have nmat := wo_same _ _ L20.nms
    have nb : bk ≠ nm := (ne_of_none nmat hbk).symm
    refine ⟨nm, .dK (nmK ps us), by rw [upd_ne nb.symm]; exact nmat, True.intro, fun od => ?_⟩
    refine ⟨_, rfl, nm, od, rfl, .inl ⟨_, upd_same, for_keys (o := od) (fun i σ H3 => ∃ v13, σ = Sg a p b c g hh nd nm td (some (.str kept)) (some (wordV due)) (some v11) (some (.ref mv)) v13 (some (.ref bk)) none none none none none ∧ H3 = upd (upd H20 nm (.frz od (.dK (nmK ps us)))) bk (.dK (nmK (us.take i) (ps.take i)))) ⟨none, rfl, upd_comm nb⟩
      (fun i σ H3 ⟨_, _, e⟩ => by rw [e, upd_ne nb.symm, upd_same]) ?_ ?_⟩⟩
    · rintro i k v σ H3 ek ⟨v13, rfl, rfl⟩
      obtain ⟨z, u, hz, hu', rfl, rfl⟩ := nm_i ek
      have lt : i < ps.length := (List.getElem?_eq_some_iff.mp hz).1
      have l6 := L20.M.few
      have few' : (nmK (us.take i) (ps.take i)).length < sizeLine := line2 (by simp; omega)
      refine ⟨_, rfl, _, rfl, _, rfl, _, rfl, nm, _, rfl, .inl ⟨_, Sum.inr z, .inr ⟨od, by rw [upd_ne nb.symm, upd_same]⟩, rfl, (nm_val nodup hz hu').symm⟩, bk, _, rfl, DPut.k (k := Sum.inr u) upd_same few', some (.str z), rfl, ?_⟩
      rw [upd_upd, show kV (Sum.inr z) = V.str z from rfl, nm_put und hu' (by rw [List.length_take]; omega)]
      have e : ps.take (i + 1) = ps.take i ++ [z] := by rw [List.take_add_one, hz]; rfl
      rw [e]
    · rintro σ H3 ⟨v13, rfl, rfl⟩
      rw [nm_len lu, List.take_length, ← lu, List.take_length]
      refine ⟨by rw [upd_ne nb.symm, upd_same], v13, rfl, ?_⟩
      rw [upd_comm nb, upd_upd, upd_id nmat]
      have s := sameUpd (o := .dK (nmK us ps)) (Same.refl H20) hbk
      exact ⟨L20.same s, mv20.keep (wo_mono s), wo_at upd_same (L20.M.hp.ap hbk)⟩
  clear L20 mv20 hbk
  rintro σ H22 ⟨v13, rfl, L22, mv22, bk22⟩
  have allUs : ∀ z ∈ allP (mapY f ys), z ∈ us := fun z m => by
    rw [allP_map] at m
    obtain ⟨y, my, rfl⟩ := List.mem_map.mp m
    exact toUs y (gy.sub y my)
  have perU : ∀ z ∈ (persOf ys).map f, z ∈ us := fun z m => by
    obtain ⟨y, my, rfl⟩ := List.mem_map.mp m
    exact toUs y (perS y my)
  have ndW : ((persOf ys).map f).Nodup := nd_map (pers_nd ys) (injN.sub perS)
  have dueB : mapDue (some (sk (nmK us ps))) (persOf (mapY f ys)) = none := by
    rw [perE]
    exact map_good (alB.sub perU) ndW (injB.sub perU)
  have ledB : ledY (sk (nmK us ps)) (mapY f ys) = ys := by
    rw [led_mapY (alB.sub allUs), mapY_mapY]
    exact mapY_id fun z m => backN z (gy.sub z m)
  -- there and back
  refine ⟨fun σ H => σ = Sg a p b c g hh nd nm td (some (.str kept)) (some (wordV due)) (some v11) (some (.ref mv)) v13 (some (.ref bk)) none none none none none ∧ LG P w C CK H p q b c g hh nd nm td ks ps us ys kvs dts ∧ HistAt C CK (wo p H) mv ks (mapY f ys), ?_, ?_⟩
  · have hat := L22.hat.keep wo_same
    have hat2 := mv22.keep wo_same
    obtain ⟨dx', fs', kp', yt', g1, g2, g3, g4, g5, g6⟩ := hat2.ob
    refine ⟨_, rfl, mv, dx', fs', rfl, g1, g4 _ (by decide +kernel) (by decide +kernel), _, rfl, mv, .ref bk, some (sk (nmK us ps)), ks, mapY f ys, rfl, hat2, gk.kb, ybM, .dct (.inl ⟨_, wo_same _ _ bk22, rfl⟩) (nm_thing lab), ?_⟩
    rw [dueB]
    intro bq kvs' H23 e al hq s23 hat3
    cases e
    rw [ledB] at hat3
    refine ⟨_, rfl, ne_same hat3 (hat.keep s23) okK okY ⟨_, rfl, iteF ?_⟩⟩
    refine ⟨_, rfl, _, rfl, eq_hist A.nf (hat2.keep s23) (hat.keep s23) okK ybM.ok okK okY ?_⟩
    refine ⟨_, rfl, _, rfl, .ref g, nm, sk (nmK ps us), ys, rfl, (L22.yt.keep wo_same).keep s23, yb, .inl ⟨_, s23 _ _ (wo_same _ _ L22.nms), rfl⟩, alP, fun t H24 ht s24 yst => ?_⟩
    rw [ledE] at yst
    have s := s23.trans s24
    refine ⟨_, rfl, dYs (mapY f ys), dYs ys, yst.dp, ((L22.yt.keep wo_same).keep s).dp, shaped_dYs ybM.ok, shaped_dYs okY, ?_⟩
    rw [eqv_dYs]
    exact ⟨rfl, _, rfl, iteNS5 (by simp) ⟨rfl, L22.same s, mv22.keep (wo_mono s)⟩⟩
  clear L22 mv22 bk22
  rintro σ H23 ⟨rfl, L23, mv23⟩
  have lenW : ((persOf ys).map f).length ≤ 6 := by
    have := sub_len (pers_nd ys) perS
    have := L23.M.few
    rw [List.length_map]
    omega
  -- again
  refine ⟨fun σ H => ∃ ag vs2, σ = Sg a p b c g hh nd nm td (some (.str kept)) (some (wordV due)) (some v11) (some (.ref mv)) v13 (some (.ref bk)) (some (.ref ag)) none none none none ∧ LG P w C CK H p q b c g hh nd nm td ks ps us ys kvs dts ∧ HistAt C CK (wo p H) mv ks (mapY f ys) ∧ wo p H ag = some (.dK (nmK ((persOf ys).map f) vs2)) ∧ vs2.length = ((persOf ys).map f).length ∧ vs2.Nodup ∧ ∀ u ∈ vs2, isLab u = true, ?_, ?_⟩
  · have hat2 := mv23.keep wo_same
    obtain ⟨dx', fs', kp', yt', g1, g2, g3, g4, g5, g6⟩ := hat2.ob
    refine ⟨_, rfl, mv, dx', _, rfl, g1, mv, ks, mapY f ys, rfl, hat2, ybM.ne, by have := ybM.pers; omega, fun q1 H24 s24 _ hq1 => ?_⟩
    rw [perE] at hq1
    refine ⟨Nat.zero_le _, fun t0 ht0 => ?_⟩
    have s25 := sameUpd (o := .tup []) s24 ht0
    refine neD_strsT (ws := (persOf ys).map f) (xs := []) (sameUpd (Same.refl _) ht0 _ _ hq1) upd_same pokM (fun z m => nomatch m) ?_
    refine ⟨_, rfl, ?_⟩
    by_cases eW : (persOf ys).map f = []
    · rw [decide_eq_true eW]
      refine iteF fun ag hag => ?_
      have s26 := sameUpd (o := .dK []) s25 hag
      refine ⟨ag, [], rfl, L23.same s26, mv23.keep (wo_mono s26), ?_, by rw [eW], List.nodup_nil, fun u m => nomatch m⟩
      rw [eW]
      exact wo_at upd_same ((L23.M.hp.same s25).ap hag)
    · rw [decide_eq_false eW]
      refine iteT ⟨_, rfl, _, rfl, mv, dx', _, rfl, s25 _ _ g1, mv, ks, mapY f ys, rfl, hat2.keep s25, ybM.ne, by have := ybM.pers; omega, fun q2 H26 s26 hq20 hq2 => ?_⟩
      rw [perE] at hq2
      have s := s25.trans s26
      have hp26 := L23.M.hp.same s
      have q2p : q2 ≠ p := (L23.M.hp.same s25).ap hq20
      refine ⟨p, q, q2, (persOf ys).map f, rfl, hp26, .tup (wo_at hq2 q2p), eW, lenW, fun z m => lau z (perU z m), ndW, fun ag vs2 H27 hag at27 lv vnd vlab hp27 k27 => ?_⟩
      exact ⟨ag, vs2, rfl, (L23.same s).keep k27 hp27, (mv23.keep (wo_mono s)).keep (wo_keep k27), at27, lv, vnd, vlab⟩
  clear L23 mv23
  rintro σ H24 ⟨ag, vs2, rfl, L24, mv24, ag24, lv, vnd, vlab⟩
  have lv' : vs2.length = (persOf ys).length := by rw [lv, List.length_map]
  -- joined
  refine ⟨fun σ H => ∃ jn H0, σ = Sg a p b c g hh nd nm td (some (.str kept)) (some (wordV due)) (some v11) (some (.ref mv)) v13 (some (.ref bk)) (some (.ref ag)) (some (.ref jn)) none none none ∧ H = upd H0 jn (.dK []) ∧ H0 jn = none ∧ LG P w C CK H0 p q b c g hh nd nm td ks ps us ys kvs dts ∧ HistAt C CK (wo p H0) mv ks (mapY f ys) ∧ wo p H0 ag = some (.dK (nmK ((persOf ys).map f) vs2)), ?_, ?_⟩
  · exact fun jn hjn => ⟨jn, H24, rfl, rfl, hjn, L24, mv24, ag24⟩
  clear L24 mv24 ag24
  rintro σ H25 ⟨jn, H24, rfl, rfl, hjn, L24, mv24, ag24⟩
  refine ⟨fun σ H => ∃ v13, σ = Sg a p b c g hh nd nm td (some (.str kept)) (some (wordV due)) (some v11) (some (.ref mv)) v13 (some (.ref bk)) (some (.ref ag)) (some (.ref jn)) none none none ∧ LG P w C CK H p q b c g hh nd nm td ks ps us ys kvs dts ∧ HistAt C CK (wo p H) mv ks (mapY f ys) ∧ wo p H ag = some (.dK (nmK ((persOf ys).map f) vs2)) ∧ wo p H jn = some (.dK (nmK (persOf ys) vs2)), ?_, ?_⟩
  · have nmat := wo_same _ _ L24.nms
    have agat := wo_same _ _ ag24
    have ndat := wo_same _ _ L24.nmd
    have nb : ∀ {x : Addr} {o : HO}, H24 x = some o → x ≠ jn := fun e => ne_of_none e hjn
    have s0 := sameUpd (o := .dK []) (Same.refl H24) hjn
    refine ⟨_, rfl, nd, rfl, for_sq (K := K) (a := nd) (xs := (persOf ys).map V.str) (H0 := H24) (IsSeq.lst ndat) (fun i σ H3 => ∃ v13, σ = Sg a p b c g hh nd nm td (some (.str kept)) (some (wordV due)) (some v11) (some (.ref mv)) v13 (some (.ref bk)) (some (.ref ag)) (some (.ref jn)) none none none ∧ H3 = upd H24 jn (.dK (nmK ((persOf ys).take i) (vs2.take i))))
      ⟨v13, rfl, rfl⟩ (fun i σ H3 ⟨_, _, e⟩ => by rw [e]; exact sameUpd (Same.refl _) hjn) ?_ ?_⟩
    · rintro i x σ H3 hi ⟨v13, rfl, rfl⟩
      rw [List.getElem?_map] at hi
      obtain ⟨z, hz, rfl⟩ := Option.map_eq_some_iff.mp hi
      have lt : i < (persOf ys).length := (List.getElem?_eq_some_iff.mp hz).1
      have li : i < vs2.length := by omega
      have mz := perS z (List.mem_of_getElem? hz)
      have few' : (nmK ((persOf ys).take i) (vs2.take i)).length < sizeLine := line2 (by simp; omega)
      have vz : valV (nmK ps us) (Sum.inr z : Key) = some (.str (f z)) := valV_sk.symm.trans (atN z mz)
      have hW : ((persOf ys).map f)[i]? = some (f z) := by rw [List.getElem?_map, hz]; rfl
      have vw : valV (nmK ((persOf ys).map f) vs2) (Sum.inr (f z) : Key) = some (.str vs2[i]) := nm_val ndW hW (List.getElem?_eq_getElem li)
      refine ⟨_, rfl, _, rfl, _, rfl, nm, _, rfl, .inl ⟨_, Sum.inr z, .inl (by rw [upd_ne (nb nmat)]; exact nmat), rfl, vz.symm⟩, ag, _, rfl, .inl ⟨_, Sum.inr (f z), .inl (by rw [upd_ne (nb agat)]; exact agat), rfl, vw.symm⟩, _, rfl, _, rfl, jn, _, rfl, DPut.k (k := Sum.inr z) upd_same few', some (.str z), rfl, ?_⟩
      rw [upd_upd, nm_put (pers_nd ys) hz (by rw [List.length_take]; omega)]
      have e : vs2.take (i + 1) = vs2.take i ++ [vs2[i]] := by rw [List.take_add_one, List.getElem?_eq_getElem li]; rfl
      rw [e]
    · rintro σ H3 ⟨v13, rfl, rfl⟩
      rw [List.length_map, List.take_length, ← lv', List.take_length]
      have s := sameUpd (o := .dK (nmK (persOf ys) vs2)) (Same.refl H24) hjn
      exact ⟨v13, rfl, L24.same s, mv24.keep (wo_mono s), wo_mono s _ _ ag24, wo_at upd_same (L24.M.hp.ap hjn)⟩
  clear L24 mv24 ag24 hjn
  rintro σ H26 ⟨v13', rfl, L26, mv26, ag26, jn26⟩
  have alA : labAll (sk (nmK ((persOf ys).map f) vs2)) ((persOf ys).map f) := nm_lab lv ndW vlab
  have injA := nm_inj lv ndW vnd
  have alJ : labAll (sk (nmK (persOf ys) vs2)) (persOf ys) := nm_lab lv' (pers_nd ys) vlab
  have injJ := nm_inj lv' (pers_nd ys) vnd
  have dueA : mapDue (some (sk (nmK ((persOf ys).map f) vs2))) (persOf (mapY f ys)) = none := by
    rw [perE]
    exact map_good alA ndW injA
  have dueJ : mapDue (some (sk (nmK (persOf ys) vs2))) (persOf ys) = none := map_good alJ (pers_nd ys) injJ
  have ledA : ledY (sk (nmK ((persOf ys).map f) vs2)) (mapY f ys) = ledY (sk (nmK (persOf ys) vs2)) ys := by
    rw [led_mapY (alA.sub fun z m => by rw [← perE]; exact pers_mem.mpr m), led_mapY (alJ.sub fun z m => pers_mem.mpr m), mapY_mapY]
    refine mapY_eq fun z m => ?_
    obtain ⟨i, hi⟩ := List.mem_iff_getElem?.mp (pers_mem.mpr m)
    have li : i < vs2.length := by have := (List.getElem?_eq_some_iff.mp hi).1; omega
    have hW : ((persOf ys).map f)[i]? = some (f z) := by rw [List.getElem?_map, hi]; rfl
    rw [nm_mp ndW hW (List.getElem?_eq_getElem li), nm_mp (pers_nd ys) hi (List.getElem?_eq_getElem li)]
  have okJ : OkY (ledY (sk (nmK (persOf ys) vs2)) ys) := ledY_ok yb (alJ.sub fun z m => pers_mem.mpr m)
  -- twice, or at once
  refine ⟨fun σ H => σ = Sg a p b c g hh nd nm td (some (.str kept)) (some (wordV due)) (some v11) (some (.ref mv)) v13' (some (.ref bk)) (some (.ref ag)) (some (.ref jn)) none none none ∧ LG P w C CK H p q b c g hh nd nm td ks ps us ys kvs dts, ?_, ?_⟩
  · have hat := L26.hat.keep wo_same
    have hat2 := mv26.keep wo_same
    obtain ⟨dx, fs, kp, yt, h1, h2, h3, h4, h5, h6⟩ := hat.ob
    obtain ⟨dx', fs', kp', yt', g1, g2, g3, g4, g5, g6⟩ := hat2.ob
    refine ⟨_, rfl, mv, dx', fs', rfl, g1, g4 _ (by decide +kernel) (by decide +kernel), _, rfl, mv, .ref ag, some (sk (nmK ((persOf ys).map f) vs2)), ks, mapY f ys, rfl, hat2, gk.kb, ybM, .dct (.inl ⟨_, wo_same _ _ ag26, rfl⟩) (nm_thing vlab), ?_⟩
    rw [dueA]
    intro q1 kvs' H27 e al hq s27 hat3
    cases e
    rw [ledA] at hat3
    refine ⟨_, rfl, hh, dx, fs, rfl, s27 _ _ h1, h4 _ (by decide +kernel) (by decide +kernel), _, rfl, hh, .ref jn, some (sk (nmK (persOf ys) vs2)), ks, ys, rfl, hat.keep s27, gk.kb, yb, .dct (.inl ⟨_, s27 _ _ (wo_same _ _ jn26), rfl⟩) (nm_thing vlab), ?_⟩
    rw [dueJ]
    intro q2 kvs' H28 e al hq s28 hat4
    cases e
    exact ne_same (hat3.keep s28) hat4 okK okJ ⟨_, rfl, iteF ⟨rfl, L26.same (s27.trans s28)⟩⟩
  clear L26 mv26 ag26 jn26
  rintro σ H27 ⟨rfl, L27⟩
  -- seats
  refine ⟨fun σ H => ∃ (se : Addr) (ss : List (Option Str)), σ = Sg a p b c g hh nd nm td (some (.str kept)) (some (wordV due)) (some v11) (some (.ref mv)) v13' (some (.ref bk)) (some (.ref ag)) (some (.ref jn)) (some (.ref se)) none none ∧ LG P w C CK H p q b c g hh nd nm td ks ps us ys kvs dts ∧ wo p H se = some (.lst (ss.map oV)) ∧ 1 ≤ ss.length ∧ ss.length ≤ 3 ∧ ∀ z, some z ∈ ss → z ∈ ps, ?_, ?_⟩
  · refine ⟨_, rfl, p, q, 3, rfl, L27.M.hp, by decide, by decide, fun z H28 z0 z1 hp28 k28 => ?_⟩
    have L28 := L27.keep k28 hp28
    refine ⟨_, _, rfl, rfl, _, rfl, by omega, by omega, fun L hL => lc_range (lo := 0) (n := (1 + z).toNat) (fun j Hj => ∃ ss : List (Option Str), Hj L = some (.lst (ss.map oV)) ∧ ss.length = j ∧ (∀ z, some z ∈ ss → z ∈ ps) ∧ HandAt Hj p q ∧ Keep H28 Hj p) ?_ ?_ ?_⟩
    · exact ⟨[], upd_same, rfl, (fun z m => nomatch m), hp28.upd (hp28.ap hL) (hp28.aq hL), keepUpd Keep.refl hL⟩
    · rintro j Hj hj ⟨ss, hLj, sl, sm, hpj, kj⟩
      have cat := wo_same _ _ (L28.keep kj hpj).M.hc
      refine ⟨rfl, _, rfl, (by show 1 ≤ sizeLine; decide), fun l1 hl1 => ?_⟩
      have s1 := sameUpd (o := .lst [V.non]) (Same.refl Hj) hl1
      refine ⟨_, rfl, l1, c, [V.non], ps.map V.str, rfl, rfl, upd_same, s1 _ _ cat, (by rw [List.length_map]; show 1 + ps.length ≤ sizeLine; exact Nat.le_of_lt (small1000 (by omega))), fun l2 hl2 => ?_⟩
      have s2 := sameUpd (o := .lst ([V.non] ++ ps.map V.str)) s1 hl2
      have hp2 := hpj.same s2
      refine ⟨p, q, l2, _, rfl, hp2, upd_same, (hpj.same s1).ap hl2, Nat.succ_pos _, by simp; omega, fun x H30 hx hp30 k30 => ?_⟩
      obtain ⟨o, rfl, ho⟩ : ∃ o, x = oV o ∧ ∀ z, o = some z → z ∈ ps := by
        rcases List.mem_cons.mp hx with e | m
        · exact ⟨none, e, fun z e => nomatch e⟩
        · obtain ⟨y, my, rfl⟩ := List.mem_map.mp m
          exact ⟨some y, rfl, fun z e => by cases e; exact my⟩
      have hL30 : H30 L = some (.lst (ss.map oV)) := k30 L _ (s2 _ _ hLj) (hp28.ap hL)
      refine ⟨ss.map oV, hL30, small1000 (by rw [List.length_map]; omega), ss ++ [o], by rw [upd_same, List.map_append]; rfl, by simp [sl], fun y m => ?_, hp30.upd (hp28.ap hL) (hp28.aq hL), keepUpd ((kj.trans (Same.keep s2)).trans k30) hL⟩
      rcases List.mem_append.mp m with m | m
      · exact sm y m
      · exact ho y (List.mem_singleton.mp m).symm
    · rintro Hj ⟨ss, hLj, sl, sm, hpj, kj⟩
      exact ⟨L, ss, rfl, L28.keep kj hpj, wo_at hLj (hp28.ap hL), by omega, by omega, sm⟩
  clear L27
  rintro σ H28 ⟨se, ss, rfl, L28, se28, s1, s3, sps⟩
  have slab : ∀ z, some z ∈ ss → isLab z = true := fun z m => lab z (sps z m)
  have hcalm : isLab (Str.ofString "calm") = true := by decide +kernel
  -- stand
  refine ⟨fun σ H => ∃ (st : Addr) (cs : List (Int × Bool)), σ = Sg a p b c g hh nd nm td (some (.str kept)) (some (wordV due)) (some v11) (some (.ref mv)) v13' (some (.ref bk)) (some (.ref ag)) (some (.ref jn)) (some (.ref se)) (some (.ref st)) none ∧ LG P w C CK H p q b c g hh nd nm td ks ps us ys kvs dts ∧ wo p H se = some (.lst (ss.map oV)) ∧ StandAt CS (wo p H) st "calm" ss cs, ?_, ?_⟩
  · refine ⟨_, rfl, _, rfl, p, q, 41, rfl, L28.M.hp, by decide, by decide, fun cn H29 c0 c1 hp29 k29 => ?_⟩
    refine ⟨_, rfl, p, q, 2, rfl, hp29, by decide, by decide, fun br H30 b0 b1 hp30 k30 => ⟨rfl, ?_⟩⟩
    refine ⟨(by show 2 ≤ sizeLine; decide), fun t ht => ⟨(by show 1 ≤ sizeLine; decide), fun l hl => ?_⟩⟩
    have s31 := sameUpd (o := .lst [V.ref t]) (sameUpd (o := .tup [V.int cn, V.bl (decide (V.int br = V.int 0))]) (Same.refl H30) ht) hl
    have tat : upd (upd H30 t (.tup [V.int cn, V.bl (decide (V.int br = V.int 0))])) l (.lst [V.ref t]) t = some (.tup [V.int cn, V.bl (decide (V.int br = V.int 0))]) := by
      rw [upd_ne (ne_of_none upd_same hl)]
      exact upd_same
    have L31 := (L28.keep (k29.trans k30) hp30).same s31
    have se31 := wo_mono s31 _ _ (wo_keep (k29.trans k30) _ _ se28)
    have gs : GoodS (Str.ofString "calm") ss [(cn, decide (V.int br = V.int 0))] := ⟨hcalm, s1, s3, slab, (by show 1 ≤ 2; decide), fun c' m => by rw [List.mem_singleton.mp m]; exact ⟨c0, by show cn ≤ 40; omega⟩⟩
    refine mk_st gs (.seq (.inl (wo_same _ _ se31)) (oV_thing (fun o m z e => slab z (e ▸ m)) _) (by rw [List.length_map]; omega)) (.seq (.lst upd_same) (.cons (.tup tat ⟨.int _, fun z e => nomatch e⟩ ⟨.bl _, fun z e => nomatch e⟩) .nil) (by show 1 ≤ 2000; decide)) fun st H32 hst s32 sat => ?_
    exact ⟨st, _, rfl, L31.same s32, wo_mono s32 _ _ se31, sat.wo (L31.M.hp.same s32)⟩
  clear L28 se28
  rintro σ H29 ⟨st, cs, rfl, L29, se29, st29⟩
  -- who sits
  refine ⟨fun σ H => ∃ si, σ = Sg a p b c g hh nd nm td (some (.str kept)) (some (wordV due)) (some v11) (some (.ref mv)) v13' (some (.ref bk)) (some (.ref ag)) (some (.ref jn)) (some (.ref se)) (some (.ref st)) (some (.ref si)) ∧ LG P w C CK H p q b c g hh nd nm td ks ps us ys kvs dts ∧ wo p H se = some (.lst (ss.map oV)) ∧ StandAt CS (wo p H) st "calm" ss cs ∧ wo p H si = some (.lst ((sitOf ss).map V.str)), ?_, ?_⟩
  · have sse := wo_same _ _ se29
    refine ⟨_, rfl, se, ss.map oV, rfl, lc_en (IsSeq.lst sse) (Same.refl _) fun D hD => ⟨fun i H => Same H29 H ∧ H D = some (.lst ((sitOf (ss.take i)).map V.str)), ⟨sameUpd (Same.refl _) hD, upd_same⟩, fun i H p => p.1, ?_, ?_⟩⟩
    · rintro i x H T hi ⟨s, hd⟩ hT
      rw [List.getElem?_map] at hi
      obtain ⟨o, ho, rfl⟩ := Option.map_eq_some_iff.mp hi
      have lt : i < ss.length := (List.getElem?_eq_some_iff.mp ho).1
      have sT := sameUpd (o := .tup [V.int (i : Nat), oV o]) (Same.refl H) hT
      have st1 := sit_take ho
      refine ⟨T, _, rfl, SqT.of upd_same, rfl, _, _, rfl, _, _, rfl, rfl, rfl, ?_⟩
      refine ⟨_, rfl, rfl, _, rfl, ?_⟩
      cases o with
      | none =>
        refine iteF (iteF ⟨s.trans sT, ?_⟩)
        rw [st1]
        exact sT _ _ hd
      | some z =>
        refine iteT ⟨_, rfl, _, rfl, _, rfl, _, rfl, se, _, rfl, SqL.of (sT _ _ (s _ _ sse)), fun s' hs => ?_⟩
        have s5 := sameUpd (o := .lst (cutV (ss.map oV) none (some (i : Nat)))) sT hs
        have ec : cutV (ss.map oV) none (some ((i : Nat) : Int)) = (ss.take i).map oV := by rw [cut_take _ _ (by rw [List.length_map]; omega), List.map_take]
        rw [ec] at s5 ⊢
        refine ⟨s', _, rfl, .inl (SqL.of upd_same), rfl, flat_oV _, _, rfl, ?_⟩
        have eI : inV (oV (some z)) ((ss.take i).map oV) = decide (some z ∈ ss.take i) := inV_oV z _
        rw [if_pos rfl, eI]
        by_cases m : some z ∈ ss.take i
        · rw [decide_eq_true m]
          refine iteF ⟨s.trans s5, ?_⟩
          rw [st1]
          show _ = some (HO.lst ((add1 (sitOf (ss.take i)) z).map V.str))
          rw [show add1 (sitOf (ss.take i)) z = sitOf (ss.take i) from if_pos (sit_mem.mpr m)]
          exact s5 _ _ hd
        · rw [decide_eq_false m]
          have ln : (sitOf (ss.take i)).length ≤ 3 := Nat.le_trans (sit_len _) (by rw [List.length_take]; omega)
          refine iteT ⟨_, rfl, _, s5 _ _ hd, small1000 (by rw [List.length_map]; omega), woD hD s s5, ?_⟩
          rw [upd_same, st1]
          show _ = some (HO.lst ((add1 (sitOf (ss.take i)) z).map V.str))
          rw [show add1 (sitOf (ss.take i)) z = sitOf (ss.take i) ++ [z] from if_neg fun q => m (sit_mem.mp q), List.map_append]
          rfl
    · rintro H ⟨s, hd⟩
      rw [List.length_map, List.take_length] at hd
      exact ⟨D, rfl, L29.same s, wo_mono s _ _ se29, st29.keep (wo_mono s), wo_at hd (L29.M.hp.ap hD)⟩
  clear L29 se29 st29
  rintro σ H30 ⟨si, rfl, L30, se30, st30, si30⟩
  have sitN : (sitOf ss).length ≤ 3 := Nat.le_trans (sit_len ss) s3
  -- persons of the stand; no persons at all
  refine ⟨fun σ H => σ = Sg a p b c g hh nd nm td (some (.str kept)) (some (wordV due)) (some v11) (some (.ref mv)) v13' (some (.ref bk)) (some (.ref ag)) (some (.ref jn)) (some (.ref se)) (some (.ref st)) (some (.ref si)) ∧ LG P w C CK H p q b c g hh nd nm td ks ps us ys kvs dts ∧ wo p H se = some (.lst (ss.map oV)) ∧ StandAt CS (wo p H) st "calm" ss cs ∧ wo p H si = some (.lst ((sitOf ss).map V.str)), ?_, ?_⟩
  · have sat := st30.keep wo_same
    obtain ⟨dx, sa, ca, xs, i1, i2, i3, i4⟩ := sat.ob
    refine ⟨_, rfl, st, dx, _, rfl, i1, st, "calm", ss, cs, rfl, sat, fun q1 H31 s31 _ hq1 => ?_⟩
    refine ⟨_, rfl, si, _, rfl, .inl ⟨SqL.of (s31 _ _ (wo_same _ _ si30)), fun l hl => ?_⟩⟩
    have okS : ∀ z ∈ sitOf ss, PyData.strOk z = true := fun z m => lab_strOk (sit_labs slab z m)
    have s32 := sameUpd (o := .tup ((sitOf ss).map V.str)) s31 hl
    refine neD_strsT (ws := sitOf ss) (xs := sitOf ss) (sameUpd (Same.refl _) hl _ _ hq1) upd_same okS okS ?_
    rw [decide_eq_true rfl]
    refine ⟨_, rfl, iteF ?_⟩
    obtain ⟨eb, rfl, weq, _⟩ := A.we
    have we : ∀ H : Hp, ClksIs K H (.ref eb) (some (cR [])) := fun H => .seq (weq.keep (fun _ _ e => nomatch e)) .nil (Nat.zero_le _)
    have g1 : GoodS (Str.ofString "calm") [none] [] := ⟨hcalm, by decide, by decide, (fun z m => by simp at m), Nat.zero_le _, fun c' m => nomatch m⟩
    have se1 : ∀ {H : Hp} {l : Addr}, H l = some (.lst [V.non]) → SeatsIs K H (.ref l) (some (([none] : List (Option Str)).map oV)) := fun e => .seq (.inl e) (fun x m => by rw [List.mem_singleton.mp m]; exact ⟨_, .non, fun z e => nomatch e⟩) (by show 1 ≤ 2000; decide)
    refine ⟨(by show 1 ≤ sizeLine; decide), fun l1 hl1 => ?_⟩
    have s33 := sameUpd (o := .lst [V.non]) s32 hl1
    refine mk_st g1 (se1 upd_same) (we _) fun x1 H34 hx1 s34 sat1 => ?_
    refine fun d1 hd1 => ?_
    have s35 := sameUpd (o := .dK []) s34 hd1
    refine .inr ⟨x1, .ref d1, some [], "calm", [none], [], rfl, sat1.keep (sameUpd (Same.refl _) hd1), .dct (.inl ⟨[], upd_same, rfl⟩) (fun kv m => nomatch m), ?_⟩
    have e0 : mapDue (some []) (sitOf [none]) = none := rfl
    rw [e0]
    intro q2 kvs2 H36 e s36 sat2
    cases e
    have s3536 := (s33.trans s35).trans s36
    refine ⟨(by show 1 ≤ sizeLine; decide), fun l2 hl2 => ?_⟩
    have s37 := sameUpd (o := .lst [V.non]) (Same.refl H36) hl2
    refine mk_st g1 (se1 upd_same) (we _) fun x2 H38 hx2 s38 sat3 => ?_
    refine ne_stand (sat2.keep (s37.trans s38)) sat3 fun H39 s39 => ⟨_, rfl, iteF ?_⟩
    have s := s3536.trans ((s37.trans s38).trans s39)
    exact ⟨rfl, L30.same s, wo_mono s _ _ se30, st30.keep (wo_mono s), wo_mono s _ _ si30⟩
  clear L30 se30 st30 si30
  rintro σ H31 ⟨rfl, L31, se31, st31, si31⟩
  generalize hdue2 : mapDue (some kvs) (sitOf ss) = due2 at *
  refine ⟨fun σ H => σ = Sg a p b c g hh nd nm td (some (.str kept)) (some (wordV due2)) (some v11) (some (.ref mv)) v13' (some (.ref bk)) (some (.ref ag)) (some (.ref jn)) (some (.ref se)) (some (.ref st)) (some (.ref si)) ∧ LG P w C CK H p q b c g hh nd nm td ks ps us ys kvs dts ∧ wo p H se = some (.lst (ss.map oV)) ∧ StandAt CS (wo p H) st "calm" ss cs, ?_, ?_⟩
  · refine ⟨_, rfl, _, rfl, td, si, kvs, sitOf ss, rfl, L31.tld.keep wo_same, dp_things (L31.dp.keep wo_same), wo_same _ _ si31, by omega, fun H32 s32 => ?_⟩
    rw [hdue2]
    exact ⟨rfl, L31.same s32, wo_mono s32 _ _ se31, st31.keep (wo_mono s32)⟩
  clear L31 se31 st31 si31
  rintro σ H32 ⟨rfl, L32, se32, st32⟩
  refine ⟨fun σ H => ∃ v11, σ = Sg a p b c g hh nd nm td (some (.str kept)) (some (wordV due2)) (some v11) (some (.ref mv)) v13' (some (.ref bk)) (some (.ref ag)) (some (.ref jn)) (some (.ref se)) (some (.ref st)) (some (.ref si)) ∧ LG P w C CK H p q b c g hh nd nm td ks ps us ys kvs dts ∧ wo p H se = some (.lst (ss.map oV)) ∧ StandAt CS (wo p H) st "calm" ss cs ∧ FoundS CS (wo p H) due2 kvs "calm" ss cs v11, ?_, ?_⟩
  · refine ⟨_, rfl, _, rfl, .inr ⟨st, .ref td, some kvs, "calm", ss, cs, rfl, st32.keep wo_same, .dct (L32.tld.keep wo_same) (dp_things (L32.dp.keep wo_same)), ?_⟩⟩
    rw [hdue2]
    cases due2 with
    | some w' => exact fun H33 s33 => ⟨.str w', rfl, L32.same s33, wo_mono s33 _ _ se32, st32.keep (wo_mono s33), rfl⟩
    | none =>
      intro q' kvs' H33 e s33 sat
      cases e
      exact ⟨.ref q', rfl, L32.same s33, wo_mono s33 _ _ se32, st32.keep (wo_mono s33), q', rfl, sat.wo (L32.M.hp.same s33)⟩
  clear L32 se32 st32
  rintro σ H33 ⟨v11', rfl, L33, se33, st33, fs33⟩
  cases due2 with
  | some w' =>
    have e : v11' = .str w' := fs33
    subst e
    refine ⟨fun _ _ => False, ?_, fun _ _ h => h.elim⟩
    refine ⟨_, rfl, rfl, _, rfl, iteT ⟨_, rfl, _, rfl, rfl, ?_⟩⟩
    show V.bl (decide (V.str w' = V.str w')) = V.bl true
    rw [decide_eq_true rfl]
  | none =>
    obtain ⟨q', rfl, sat⟩ := fs33
    refine ⟨fun σ H => σ = Sg a p b c g hh nd nm td (some (.str kept)) (some (wordV none)) (some (.ref q')) (some (.ref mv)) v13' (some (.ref bk)) (some (.ref ag)) (some (.ref jn)) (some (.ref se)) (some (.ref st)) (some (.ref si)) ∧ H = H33, ?_, ?_⟩
    · exact ⟨_, rfl, rfl, _, rfl, iteF ⟨rfl, rfl⟩⟩
    rintro σ H ⟨rfl, rfl⟩
    have sq := sat.keep wo_same
    have sst := st33.keep wo_same
    obtain ⟨kvs2, ek, al, _⟩ := mapDue_none hdue2
    cases ek
    obtain ⟨dx, sa, ca, xs, i1, i2, i3, i4⟩ := sst.ob
    refine ⟨_, rfl, _, _, _, _, _, rfl, .ty _, sq.ty A.SX, A.tS, _, rfl, _, rfl, iteT ?_⟩
    refine ⟨_, rfl, _, rfl, se, rfl, lc_pure (g := gName 13) (fun j y H' => ∀ o, ss[j]? = some o → y = oV (renO kvs o)) (fun j y H' H'' q s => q) (IsSeq.lst (wo_same _ _ se33)) (Same.refl _) (by rw [List.length_map]; omega) ?_ ?_ fun x σ H Q Q' q z => q _ _ z⟩
    · rintro D' i y H3 k' hi hD s3' ⟨acc, hacc⟩ kk
      rw [List.getElem?_map] at hi
      obtain ⟨o, ho, rfl⟩ := Option.map_eq_some_iff.mp hi
      cases o with
      | none =>
        refine ⟨rfl, _, rfl, rfl, _, rfl, (if_pos rfl).mpr (kk _ _ (Same.refl _) fun o e => ?_)⟩
        rw [ho] at e
        cases e
        rfl
      | some z =>
        obtain ⟨u, e1, e2⟩ := renO_at al (List.mem_of_getElem? ho)
        refine ⟨rfl, _, rfl, rfl, _, rfl, (if_neg (fun z => nomatch of_decide_eq_true z)).mpr ⟨_, rfl, _, rfl, td, _, z, _, rfl, rfl, (L33.tld.keep wo_same).keep s3', e1, kk _ _ (Same.refl _) fun o e => ?_⟩⟩
        rw [ho] at e
        cases e
        rw [e2]
        rfl
    · intro D' zs H3 hD s3' hd ly g3
      have ey : zs = (ss.map (renO kvs)).map oV := by
        refine List.ext_getElem? fun i => ?_
        rw [List.getElem?_map, List.getElem?_map]
        rw [List.length_map] at ly
        cases e : ss[i]? with
        | none =>
          have h1 := List.getElem?_eq_none_iff.mp e
          exact List.getElem?_eq_none_iff.mpr (by omega)
        | some o =>
          have h1 := (List.getElem?_eq_some_iff.mp e).1
          have h2 : i < zs.length := by omega
          rw [List.getElem?_eq_getElem h2, g3 i _ (List.getElem?_eq_getElem h2) o e]
          rfl
      subst ey
      have g' := renO_good (kvs := kvs) sst.good al
      refine ⟨_, rfl, st, CS, dx, _, _, rfl, s3' _ _ i1, A.SX.cl, A.SX.nC, sFs_c _ _ _, ?_⟩
      refine mk_st g' (.seq (.inl hd) (oV_thing g'.fine _) (by rw [List.length_map, List.length_map]; omega)) (clksT (s3' _ _ i3) (pr_imp i4 fun _ _ q => q.keep s3') g'.2.2.2.2.1) fun x H4 hx s4 st4 => ?_
      exact eq_stand A.nfS (sq.keep (s3'.trans s4)) st4 fun H5 s5 => rfl
end Kx

set_option maxHeartbeats 8000000
namespace Kx
open PySem PySem.Spec PyProof.Rows L2
section
variable {K : PySem.W.Frag}
theorem hist_binds3 {ed f : Addr} {fd : FuncData} (F : FunD K "__init__" "History.__init__" (defArgs sHistory_init) (defBody sHistory_init) (defScope sHistory_init) [V.ref ed] [] f fd) : Binds K fd ["self", "kinds", "years"] [] := by
  obtain ⟨ds, r, b⟩ := F.binds1 (ps := ["self", "kinds", "years"]) 3 1 (by simp) rfl fun T kV doc pm an cdv ct us its h1 h2 => match us, its, h1, h2 with | [_, _, _], [_], _, _ => ⟨_, rfl, rfl⟩
  cases r
  exact b
theorem hist_binds2x {ed f : Addr} {fd : FuncData} (F : FunD K "__init__" "History.__init__" (defArgs sHistory_init) (defBody sHistory_init) (defScope sHistory_init) [V.ref ed] [] f fd) : ∃ ds, Vals [V.ref ed] ds ∧ Binds K fd ["self", "kinds", "years"] ds := by
  obtain ⟨ds, r, b⟩ := F.binds1 (ps := ["self", "kinds", "years"]) 2 0 (by simp) rfl fun T kV doc pm an cdv ct us its h1 h2 => match us, its, h1, h2 with | [_, _], [_], _, _ => ⟨_, rfl, rfl⟩
  exact ⟨ds, r, b⟩
theorem hist_binds2 {ed f : Addr} {fd : FuncData} (F : FunD K "__init__" "History.__init__" (defArgs sHistory_init) (defBody sHistory_init) (defScope sHistory_init) [V.ref ed] [] f fd) : Binds K fd ["self", "kinds", "years"] [Value.ref ed] := by
  obtain ⟨ds, r, b⟩ := hist_binds2x F
  cases r with
  | cons h t =>
    cases t
    cases h
    exact b
theorem stand_binds4 {ed f : Addr} {fd : FuncData} (F : FunD K "__init__" "Stand.__init__" (defArgs sStand_init) (defBody sStand_init) (defScope sStand_init) [V.ref ed] [] f fd) : Binds K fd ["self", "room", "seats", "clocks"] [] := by
  obtain ⟨ds, r, b⟩ := F.binds1 (ps := ["self", "room", "seats", "clocks"]) 4 1 (by simp) rfl fun T kV doc pm an cdv ct us its h1 h2 => match us, its, h1, h2 with | [_, _, _, _], [_], _, _ => ⟨_, rfl, rfl⟩
  cases r
  exact b
theorem stand_binds3 {ed f : Addr} {fd : FuncData} (F : FunD K "__init__" "Stand.__init__" (defArgs sStand_init) (defBody sStand_init) (defScope sStand_init) [V.ref ed] [] f fd) : ∃ ds, Vals [V.ref ed] ds ∧ Binds K fd ["self", "room", "seats", "clocks"] ds := by
  obtain ⟨ds, r, b⟩ := F.binds1 (ps := ["self", "room", "seats", "clocks"]) 3 0 (by simp) rfl fun T kV doc pm an cdv ct us its h1 h2 => match us, its, h1, h2 with | [_, _, _], [_], _, _ => ⟨_, rfl, rfl⟩
  exact ⟨ds, r, b⟩
end
theorem all_mk {l : PySem.W.OpenLaw} {w : World} {K : PySem.W.Frag} {h : Heap} {mg : Str → Option Value} {fa : Addr} {t2 t3 t4 t5 t6 t7 t8 t9 tA : Tok} (X : K.In h) (G : h.Ns mainGlobals mg) (hfa : mg "law" = some (.ref fa))
    {f0 f1 f2 f3 f4 f5 f6 f7 f8 f9 f10 f11 f12 f13 f14 f15 f16 f17 f18 f19 f20 f21 f22 f23 f24 f25 f26 f27 f28 f29 g0 g1 g2 g3 g4 g5 g6 g7 g8 g9 g10 g11 g12 g13 g14 g15 g16 C CK CS CB CKB CM CSB p0 p1 p2 pT ed pU ee : Addr} {od0 an0 od1 an1 od2 an2 od3 an3 od4 an4 od5 an5 od6 an6 od7 an7 od8 an8 od9 an9 od10 an10 od11 an11 od12 an12 od13 an13 od14 an14 od15 an15 od16 an16 od17 an17 od18 an18 od19 an19 od20 an20 od21 an21 od22 an22 od23 an23 od24 an24 od25 an25 od26 an26 od27 an27 od28 an28 od29 an29 pd0 bn0 pd1 bn1 pd2 bn2 pd3 bn3 pd4 bn4 pd5 bn5 pd6 bn6 pd7 bn7 pd8 bn8 pd9 bn9 pd10 bn10 pd11 bn11 pd12 bn12 pd13 bn13 pd14 bn14 pd15 bn15 pd16 bn16 tod eod uod fod : Option Addr} {sl0 sl1 sl2 sl3 sl4 sl5 sl6 sl7 sl8 sl9 sl10 sl11 sl12 sl13 sl14 sl15 sl16 sl17 sl18 sl19 sl20 sl21 sl22 sl23 sl24 sl25 sl26 sl27 sl28 sl29 tl0 tl1 tl2 tl3 tl4 tl5 tl6 tl7 tl8 tl9 tl10 tl11 tl12 tl13 tl14 tl15 tl16 tsl esl usl fsl : Array (Option Value)} {oc0 kV0 dc0 pm0 cd0 ct0 oc1 kV1 dc1 pm1 cd1 ct1 oc2 kV2 dc2 pm2 cd2 ct2 oc3 kV3 dc3 pm3 cd3 ct3 oc4 kV4 dc4 pm4 cd4 ct4 oc5 kV5 dc5 pm5 cd5 ct5 oc6 kV6 dc6 pm6 cd6 ct6 oc7 kV7 dc7 pm7 cd7 ct7 oc8 kV8 dc8 pm8 cd8 ct8 oc9 kV9 dc9 pm9 cd9 ct9 oc10 kV10 dc10 pm10 cd10 ct10 oc11 kV11 dc11 pm11 cd11 ct11 oc12 kV12 dc12 pm12 cd12 ct12 oc13 kV13 dc13 pm13 cd13 ct13 oc14 kV14 dc14 pm14 cd14 ct14 oc15 kV15 dc15 pm15 cd15 ct15 oc16 kV16 dc16 pm16 cd16 ct16 oc17 kV17 dc17 pm17 cd17 ct17 oc18 kV18 dc18 pm18 cd18 ct18 oc19 kV19 dc19 pm19 cd19 ct19 oc20 kV20 dc20 pm20 cd20 ct20 oc21 kV21 dc21 pm21 cd21 ct21 oc22 kV22 dc22 pm22 cd22 ct22 oc23 kV23 dc23 pm23 cd23 ct23 oc24 kV24 dc24 pm24 cd24 ct24 oc25 kV25 dc25 pm25 cd25 ct25 oc26 kV26 dc26 pm26 cd26 ct26 oc27 kV27 dc27 pm27 cd27 ct27 oc28 kV28 dc28 pm28 cd28 ct28 oc29 kV29 dc29 pm29 cd29 ct29 pc0 lV0 ec0 qm0 dd0 dt0 pc1 lV1 ec1 qm1 dd1 dt1 pc2 lV2 ec2 qm2 dd2 dt2 pc3 lV3 ec3 qm3 dd3 dt3 pc4 lV4 ec4 qm4 dd4 dt4 pc5 lV5 ec5 qm5 dd5 dt5 pc6 lV6 ec6 qm6 dd6 dt6 pc7 lV7 ec7 qm7 dd7 dt7 pc8 lV8 ec8 qm8 dd8 dt8 pc9 lV9 ec9 qm9 dd9 dt9 pc10 lV10 ec10 qm10 dd10 dt10 pc11 lV11 ec11 qm11 dd11 dt11 pc12 lV12 ec12 qm12 dd12 dt12 pc13 lV13 ec13 qm13 dd13 dt13 pc14 lV14 ec14 qm14 dd14 dt14 pc15 lV15 ec15 qm15 dd15 dt15 pc16 lV16 ec16 qm16 dd16 dt16 toc uoc : Value} {rest0 rest1 rest2 : List Value} {tn en un fn : Nat}
    (a0 : PySem.W.nsIn K mainGlobals "is_whole" = some (some (.ref f0)))
    (l0 : K.lookup f0 = some ⟨oc0, od0, .func (PySem.W.fnOf "is_whole" "is_whole" (defArgs sWhole) (defBody sWhole) (defScope sWhole) .none kV0 dc0 pm0 an0 cd0 ct0), sl0⟩)
    (c0 : PySem.W.codeIn K cd0 "is_whole" = true)
    (k0 : PySem.W.keepIn K (.ref f0) = true)
    (a1 : PySem.W.nsIn K mainGlobals "is_label" = some (some (.ref f1)))
    (l1 : K.lookup f1 = some ⟨oc1, od1, .func (PySem.W.fnOf "is_label" "is_label" (defArgs sLabel) (defBody sLabel) (defScope sLabel) .none kV1 dc1 pm1 an1 cd1 ct1), sl1⟩)
    (c1 : PySem.W.codeIn K cd1 "is_label" = true)
    (k1 : PySem.W.keepIn K (.ref f1) = true)
    (a2 : PySem.W.nsIn K mainGlobals "is_sequence" = some (some (.ref f2)))
    (l2 : K.lookup f2 = some ⟨oc2, od2, .func (PySem.W.fnOf "is_sequence" "is_sequence" (defArgs sSeq) (defBody sSeq) (defScope sSeq) .none kV2 dc2 pm2 an2 cd2 ct2), sl2⟩)
    (c2 : PySem.W.codeIn K cd2 "is_sequence" = true)
    (k2 : PySem.W.keepIn K (.ref f2) = true)
    (a3 : PySem.W.nsIn K mainGlobals "_row_fault" = some (some (.ref f3)))
    (l3 : K.lookup f3 = some ⟨oc3, od3, .func (PySem.W.fnOf "_row_fault" "_row_fault" (defArgs sRowFault) (defBody sRowFault) (defScope sRowFault) .none kV3 dc3 pm3 an3 cd3 ct3), sl3⟩)
    (c3 : PySem.W.codeIn K cd3 "_row_fault" = true)
    (k3 : PySem.W.keepIn K (.ref f3) = true)
    (a4 : PySem.W.nsIn K mainGlobals "map_fault" = some (some (.ref f4)))
    (l4 : K.lookup f4 = some ⟨oc4, od4, .func (PySem.W.fnOf "map_fault" "map_fault" (defArgs sMapFault) (defBody sMapFault) (defScope sMapFault) .none kV4 dc4 pm4 an4 cd4 ct4), sl4⟩)
    (c4 : PySem.W.codeIn K cd4 "map_fault" = true)
    (k4 : PySem.W.keepIn K (.ref f4) = true)
    (a5 : PySem.W.nsIn K mainGlobals "history_of" = some (some (.ref f5)))
    (l5 : K.lookup f5 = some ⟨oc5, od5, .func (PySem.W.fnOf "history_of" "history_of" (defArgs sHistoryOf) (defBody sHistoryOf) (defScope sHistoryOf) .none kV5 dc5 pm5 an5 cd5 ct5), sl5⟩)
    (c5 : PySem.W.codeIn K cd5 "history_of" = true)
    (k5 : PySem.W.keepIn K (.ref f5) = true)
    (a6 : PySem.W.nsIn K mainGlobals "_is_too_long" = some (some (.ref f6)))
    (l6 : K.lookup f6 = some ⟨oc6, od6, .func (PySem.W.fnOf "_is_too_long" "_is_too_long" (defArgs sIsTooLong) (defBody sIsTooLong) (defScope sIsTooLong) .none kV6 dc6 pm6 an6 cd6 ct6), sl6⟩)
    (c6 : PySem.W.codeIn K cd6 "_is_too_long" = true)
    (k6 : PySem.W.keepIn K (.ref f6) = true)
    (a7 : PySem.W.nsIn K mainGlobals "_year_of" = some (some (.ref f7)))
    (l7 : K.lookup f7 = some ⟨oc7, od7, .func (PySem.W.fnOf "_year_of" "_year_of" (defArgs sYearOf) (defBody sYearOf) (defScope sYearOf) .none kV7 dc7 pm7 an7 cd7 ct7), sl7⟩)
    (c7 : PySem.W.codeIn K cd7 "_year_of" = true)
    (k7 : PySem.W.keepIn K (.ref f7) = true)
    (a8 : PySem.W.nsIn K mainGlobals "_renamed_year" = some (some (.ref f8)))
    (l8 : K.lookup f8 = some ⟨oc8, od8, .func (PySem.W.fnOf "_renamed_year" "_renamed_year" (defArgs sRenamedYear) (defBody sRenamedYear) (defScope sRenamedYear) .none kV8 dc8 pm8 an8 cd8 ct8), sl8⟩)
    (c8 : PySem.W.codeIn K cd8 "_renamed_year" = true)
    (k8 : PySem.W.keepIn K (.ref f8) = true)
    (a9 : PySem.W.nsIn K mainGlobals "sitters" = some (some (.ref f9)))
    (l9 : K.lookup f9 = some ⟨oc9, od9, .func (PySem.W.fnOf "sitters" "sitters" (defArgs sSitters) (defBody sSitters) (defScope sSitters) .none kV9 dc9 pm9 an9 cd9 ct9), sl9⟩)
    (c9 : PySem.W.codeIn K cd9 "sitters" = true)
    (k9 : PySem.W.keepIn K (.ref f9) = true)
    (a10 : PySem.W.nsIn K mainGlobals "_clock_fault" = some (some (.ref f10)))
    (l10 : K.lookup f10 = some ⟨oc10, od10, .func (PySem.W.fnOf "_clock_fault" "_clock_fault" (defArgs sClockFault) (defBody sClockFault) (defScope sClockFault) .none kV10 dc10 pm10 an10 cd10 ct10), sl10⟩)
    (c10 : PySem.W.codeIn K cd10 "_clock_fault" = true)
    (k10 : PySem.W.keepIn K (.ref f10) = true)
    (a11 : PySem.W.nsIn K mainGlobals "_law_mix" = some (some (.ref f11)))
    (l11 : K.lookup f11 = some ⟨oc11, od11, .func (PySem.W.fnOf "_law_mix" "_law_mix" (defArgs sMix) (defBody sMix) (defScope sMix) .none kV11 dc11 pm11 an11 cd11 ct11), sl11⟩)
    (c11 : PySem.W.codeIn K cd11 "_law_mix" = true)
    (k11 : PySem.W.keepIn K (.ref f11) = true)
    (a12 : PySem.W.nsIn K mainGlobals "_law_hand" = some (some (.ref f12)))
    (l12 : K.lookup f12 = some ⟨oc12, od12, .func (PySem.W.fnOf "_law_hand" "_law_hand" (defArgs sHand) (defBody sHand) (defScope sHand) .none kV12 dc12 pm12 an12 cd12 ct12), sl12⟩)
    (c12 : PySem.W.codeIn K cd12 "_law_hand" = true)
    (k12 : PySem.W.keepIn K (.ref f12) = true)
    (a13 : PySem.W.nsIn K mainGlobals "_law_draw" = some (some (.ref f13)))
    (l13 : K.lookup f13 = some ⟨oc13, od13, .func (PySem.W.fnOf "_law_draw" "_law_draw" (defArgs sDraw) (defBody sDraw) (defScope sDraw) .none kV13 dc13 pm13 an13 cd13 ct13), sl13⟩)
    (c13 : PySem.W.codeIn K cd13 "_law_draw" = true)
    (k13 : PySem.W.keepIn K (.ref f13) = true)
    (a14 : PySem.W.nsIn K mainGlobals "_law_one" = some (some (.ref f14)))
    (l14 : K.lookup f14 = some ⟨oc14, od14, .func (PySem.W.fnOf "_law_one" "_law_one" (defArgs sOne) (defBody sOne) (defScope sOne) .none kV14 dc14 pm14 an14 cd14 ct14), sl14⟩)
    (c14 : PySem.W.codeIn K cd14 "_law_one" = true)
    (k14 : PySem.W.keepIn K (.ref f14) = true)
    (a15 : PySem.W.nsIn K mainGlobals "_law_word" = some (some (.ref f15)))
    (l15 : K.lookup f15 = some ⟨oc15, od15, .func (PySem.W.fnOf "_law_word" "_law_word" (defArgs sWord) (defBody sWord) (defScope sWord) .none kV15 dc15 pm15 an15 cd15 ct15), sl15⟩)
    (c15 : PySem.W.codeIn K cd15 "_law_word" = true)
    (k15 : PySem.W.keepIn K (.ref f15) = true)
    (a16 : PySem.W.nsIn K mainGlobals "_law_label" = some (some (.ref f16)))
    (l16 : K.lookup f16 = some ⟨oc16, od16, .func (PySem.W.fnOf "_law_label" "_law_label" (defArgs sLLabel) (defBody sLLabel) (defScope sLLabel) .none kV16 dc16 pm16 an16 cd16 ct16), sl16⟩)
    (c16 : PySem.W.codeIn K cd16 "_law_label" = true)
    (k16 : PySem.W.keepIn K (.ref f16) = true)
    (a17 : PySem.W.nsIn K mainGlobals "_law_odd" = some (some (.ref f17)))
    (l17 : K.lookup f17 = some ⟨oc17, od17, .func (PySem.W.fnOf "_law_odd" "_law_odd" (defArgs sOdd) (defBody sOdd) (defScope sOdd) .none kV17 dc17 pm17 an17 cd17 ct17), sl17⟩)
    (c17 : PySem.W.codeIn K cd17 "_law_odd" = true)
    (k17 : PySem.W.keepIn K (.ref f17) = true)
    (a18 : PySem.W.nsIn K mainGlobals "_law_kinds" = some (some (.ref f18)))
    (l18 : K.lookup f18 = some ⟨oc18, od18, .func (PySem.W.fnOf "_law_kinds" "_law_kinds" (defArgs sLKinds) (defBody sLKinds) (defScope sLKinds) .none kV18 dc18 pm18 an18 cd18 ct18), sl18⟩)
    (c18 : PySem.W.codeIn K cd18 "_law_kinds" = true)
    (k18 : PySem.W.keepIn K (.ref f18) = true)
    (a19 : PySem.W.nsIn K mainGlobals "_law_made_deed" = some (some (.ref f19)))
    (l19 : K.lookup f19 = some ⟨oc19, od19, .func (PySem.W.fnOf "_law_made_deed" "_law_made_deed" (defArgs sLMadeDeed) (defBody sLMadeDeed) (defScope sLMadeDeed) .none kV19 dc19 pm19 an19 cd19 ct19), sl19⟩)
    (c19 : PySem.W.codeIn K cd19 "_law_made_deed" = true)
    (k19 : PySem.W.keepIn K (.ref f19) = true)
    (a20 : PySem.W.nsIn K mainGlobals "_law_persons" = some (some (.ref f20)))
    (l20 : K.lookup f20 = some ⟨oc20, od20, .func (PySem.W.fnOf "_law_persons" "_law_persons" (defArgs sLPersons) (defBody sLPersons) (defScope sLPersons) .none kV20 dc20 pm20 an20 cd20 ct20), sl20⟩)
    (c20 : PySem.W.codeIn K cd20 "_law_persons" = true)
    (k20 : PySem.W.keepIn K (.ref f20) = true)
    (a21 : PySem.W.nsIn K mainGlobals "_law_told_years" = some (some (.ref f21)))
    (l21 : K.lookup f21 = some ⟨oc21, od21, .func (PySem.W.fnOf "_law_told_years" "_law_told_years" (defArgs sLToldYears) (defBody sLToldYears) (defScope sLToldYears) .none kV21 dc21 pm21 an21 cd21 ct21), sl21⟩)
    (c21 : PySem.W.codeIn K cd21 "_law_told_years" = true)
    (k21 : PySem.W.keepIn K (.ref f21) = true)
    (a22 : PySem.W.nsIn K mainGlobals "_law_tuples" = some (some (.ref f22)))
    (l22 : K.lookup f22 = some ⟨oc22, od22, .func (PySem.W.fnOf "_law_tuples" "_law_tuples" (defArgs sLTuples) (defBody sLTuples) (defScope sLTuples) .none kV22 dc22 pm22 an22 cd22 ct22), sl22⟩)
    (c22 : PySem.W.codeIn K cd22 "_law_tuples" = true)
    (k22 : PySem.W.keepIn K (.ref f22) = true)
    (a23 : PySem.W.nsIn K mainGlobals "_law_named" = some (some (.ref f23)))
    (l23 : K.lookup f23 = some ⟨oc23, od23, .func (PySem.W.fnOf "_law_named" "_law_named" (defArgs sLNamed) (defBody sLNamed) (defScope sLNamed) .none kV23 dc23 pm23 an23 cd23 ct23), sl23⟩)
    (c23 : PySem.W.codeIn K cd23 "_law_named" = true)
    (k23 : PySem.W.keepIn K (.ref f23) = true)
    (a24 : PySem.W.nsIn K mainGlobals "_law_names" = some (some (.ref f24)))
    (l24 : K.lookup f24 = some ⟨oc24, od24, .func (PySem.W.fnOf "_law_names" "_law_names" (defArgs sLNames) (defBody sLNames) (defScope sLNames) .none kV24 dc24 pm24 an24 cd24 ct24), sl24⟩)
    (c24 : PySem.W.codeIn K cd24 "_law_names" = true)
    (k24 : PySem.W.keepIn K (.ref f24) = true)
    (a25 : PySem.W.nsIn K mainGlobals "_law_spoil" = some (some (.ref f25)))
    (l25 : K.lookup f25 = some ⟨oc25, od25, .func (PySem.W.fnOf "_law_spoil" "_law_spoil" (defArgs sLSpoil) (defBody sLSpoil) (defScope sLSpoil) .none kV25 dc25 pm25 an25 cd25 ct25), sl25⟩)
    (c25 : PySem.W.codeIn K cd25 "_law_spoil" = true)
    (k25 : PySem.W.keepIn K (.ref f25) = true)
    (a26 : PySem.W.nsIn K mainGlobals "_law_due" = some (some (.ref f26)))
    (l26 : K.lookup f26 = some ⟨oc26, od26, .func (PySem.W.fnOf "_law_due" "_law_due" (defArgs sLDue) (defBody sLDue) (defScope sLDue) .none kV26 dc26 pm26 an26 cd26 ct26), sl26⟩)
    (c26 : PySem.W.codeIn K cd26 "_law_due" = true)
    (k26 : PySem.W.keepIn K (.ref f26) = true)
    (a27 : PySem.W.nsIn K mainGlobals "_law_led" = some (some (.ref f27)))
    (l27 : K.lookup f27 = some ⟨oc27, od27, .func (PySem.W.fnOf "_law_led" "_law_led" (defArgs sLLed) (defBody sLLed) (defScope sLLed) .none kV27 dc27 pm27 an27 cd27 ct27), sl27⟩)
    (c27 : PySem.W.codeIn K cd27 "_law_led" = true)
    (k27 : PySem.W.keepIn K (.ref f27) = true)
    (a28 : PySem.W.nsIn K mainGlobals "_law_tried" = some (some (.ref f28)))
    (l28 : K.lookup f28 = some ⟨oc28, od28, .func (PySem.W.fnOf "_law_tried" "_law_tried" (defArgs sLTried) (defBody sLTried) (defScope sLTried) .none kV28 dc28 pm28 an28 cd28 ct28), sl28⟩)
    (c28 : PySem.W.codeIn K cd28 "_law_tried" = true)
    (k28 : PySem.W.keepIn K (.ref f28) = true)
    (a29 : PySem.W.nsIn K mainGlobals "law" = some (some (.ref f29)))
    (l29 : K.lookup f29 = some ⟨oc29, od29, .func (PySem.W.fnOf "law" "law" (defArgs sLaw) (defBody sLaw) (defScope sLaw) .none kV29 dc29 pm29 an29 cd29 ct29), sl29⟩)
    (c29 : PySem.W.codeIn K cd29 "law" = true)
    (k29 : PySem.W.keepIn K (.ref f29) = true)
    (mC : PySem.W.nsIn K mainGlobals "History" = some (some (.ref C)))
    (mCK : PySem.W.nsIn K mainGlobals "Kinds" = some (some (.ref CK)))
    (mCS : PySem.W.nsIn K mainGlobals "Stand" = some (some (.ref CS)))
    (mCB : PySem.W.nsIn K mainGlobals "BadHistory" = some (some (.ref CB)))
    (mCKB : PySem.W.nsIn K mainGlobals "BadKinds" = some (some (.ref CKB)))
    (mCM : PySem.W.nsIn K mainGlobals "BadMap" = some (some (.ref CM)))
    (mCSB : PySem.W.nsIn K mainGlobals "BadStand" = some (some (.ref CSB)))
    (M0 : PySem.W.findIn K (.ref CKB) "__init__" = some (some (.ref g0)))
    (L0 : K.lookup g0 = some ⟨pc0, pd0, .func (PySem.W.fnOf "__init__" "BadKinds.__init__" (defArgs sBadKinds_init) (defBody sBadKinds_init) (defScope sBadKinds_init) .none lV0 ec0 qm0 bn0 dd0 dt0), tl0⟩)
    (D0 : PySem.W.codeIn K dd0 "BadKinds.__init__" = true)
    (N0 : PySem.W.keepIn K (.ref g0) = true)
    (T0 : PySem.W.typeIn K (.ref g0) = some (.type "function"))
    (M1 : PySem.W.findIn K (.ref CB) "__init__" = some (some (.ref g1)))
    (L1 : K.lookup g1 = some ⟨pc1, pd1, .func (PySem.W.fnOf "__init__" "BadHistory.__init__" (defArgs sBadHistory_init) (defBody sBadHistory_init) (defScope sBadHistory_init) .none lV1 ec1 qm1 bn1 dd1 dt1), tl1⟩)
    (D1 : PySem.W.codeIn K dd1 "BadHistory.__init__" = true)
    (N1 : PySem.W.keepIn K (.ref g1) = true)
    (T1 : PySem.W.typeIn K (.ref g1) = some (.type "function"))
    (M2 : PySem.W.findIn K (.ref CM) "__init__" = some (some (.ref g2)))
    (L2 : K.lookup g2 = some ⟨pc2, pd2, .func (PySem.W.fnOf "__init__" "BadMap.__init__" (defArgs sBadMap_init) (defBody sBadMap_init) (defScope sBadMap_init) .none lV2 ec2 qm2 bn2 dd2 dt2), tl2⟩)
    (D2 : PySem.W.codeIn K dd2 "BadMap.__init__" = true)
    (N2 : PySem.W.keepIn K (.ref g2) = true)
    (T2 : PySem.W.typeIn K (.ref g2) = some (.type "function"))
    (M3 : PySem.W.findIn K (.ref CSB) "__init__" = some (some (.ref g3)))
    (L3 : K.lookup g3 = some ⟨pc3, pd3, .func (PySem.W.fnOf "__init__" "BadStand.__init__" (defArgs sBadStand_init) (defBody sBadStand_init) (defScope sBadStand_init) .none lV3 ec3 qm3 bn3 dd3 dt3), tl3⟩)
    (D3 : PySem.W.codeIn K dd3 "BadStand.__init__" = true)
    (N3 : PySem.W.keepIn K (.ref g3) = true)
    (T3 : PySem.W.typeIn K (.ref g3) = some (.type "function"))
    (M4 : PySem.W.findIn K (.ref CK) "__init__" = some (some (.ref g4)))
    (L4 : K.lookup g4 = some ⟨pc4, pd4, .func (PySem.W.fnOf "__init__" "Kinds.__init__" (defArgs sKinds_init) (defBody sKinds_init) (defScope sKinds_init) .none lV4 ec4 qm4 bn4 dd4 dt4), tl4⟩)
    (D4 : PySem.W.codeIn K dd4 "Kinds.__init__" = true)
    (N4 : PySem.W.keepIn K (.ref g4) = true)
    (T4 : PySem.W.typeIn K (.ref g4) = some (.type "function"))
    (M5 : PySem.W.findIn K (.ref CK) "__eq__" = some (some (.ref g5)))
    (L5 : K.lookup g5 = some ⟨pc5, pd5, .func (PySem.W.fnOf "__eq__" "Kinds.__eq__" (defArgs sKinds_eq) (defBody sKinds_eq) (defScope sKinds_eq) .none lV5 ec5 qm5 bn5 dd5 dt5), tl5⟩)
    (D5 : PySem.W.codeIn K dd5 "Kinds.__eq__" = true)
    (N5 : PySem.W.keepIn K (.ref g5) = true)
    (T5 : PySem.W.typeIn K (.ref g5) = some (.type "function"))
    (M6 : PySem.W.findIn K (.ref CK) "__contains__" = some (some (.ref g6)))
    (L6 : K.lookup g6 = some ⟨pc6, pd6, .func (PySem.W.fnOf "__contains__" "Kinds.__contains__" (defArgs sKinds_contains) (defBody sKinds_contains) (defScope sKinds_contains) .none lV6 ec6 qm6 bn6 dd6 dt6), tl6⟩)
    (D6 : PySem.W.codeIn K dd6 "Kinds.__contains__" = true)
    (N6 : PySem.W.keepIn K (.ref g6) = true)
    (T6 : PySem.W.typeIn K (.ref g6) = some (.type "function"))
    (M7 : PySem.W.findIn K (.ref CK) "fault" = some (some (.ref g7)))
    (L7 : K.lookup g7 = some ⟨pc7, pd7, .func (PySem.W.fnOf "fault" "Kinds.fault" (defArgs sKinds_fault) (defBody sKinds_fault) (defScope sKinds_fault) .none lV7 ec7 qm7 bn7 dd7 dt7), tl7⟩)
    (D7 : PySem.W.codeIn K dd7 "Kinds.fault" = true)
    (N7 : PySem.W.keepIn K (.ref g7) = true)
    (T7 : PySem.W.typeIn K (.ref g7) = some (.type "function"))
    (M8 : PySem.W.findIn K (.ref C) "__eq__" = some (some (.ref g8)))
    (L8 : K.lookup g8 = some ⟨pc8, pd8, .func (PySem.W.fnOf "__eq__" "History.__eq__" (defArgs sHistory_eq) (defBody sHistory_eq) (defScope sHistory_eq) .none lV8 ec8 qm8 bn8 dd8 dt8), tl8⟩)
    (D8 : PySem.W.codeIn K dd8 "History.__eq__" = true)
    (N8 : PySem.W.keepIn K (.ref g8) = true)
    (T8 : PySem.W.typeIn K (.ref g8) = some (.type "function"))
    (M9 : PySem.W.findIn K (.ref C) "renamed" = some (some (.ref g9)))
    (L9 : K.lookup g9 = some ⟨pc9, pd9, .func (PySem.W.fnOf "renamed" "History.renamed" (defArgs sHistory_renamed) (defBody sHistory_renamed) (defScope sHistory_renamed) .none lV9 ec9 qm9 bn9 dd9 dt9), tl9⟩)
    (D9 : PySem.W.codeIn K dd9 "History.renamed" = true)
    (N9 : PySem.W.keepIn K (.ref g9) = true)
    (T9 : PySem.W.typeIn K (.ref g9) = some (.type "function"))
    (M10 : PySem.W.findIn K (.ref CS) "__eq__" = some (some (.ref g10)))
    (L10 : K.lookup g10 = some ⟨pc10, pd10, .func (PySem.W.fnOf "__eq__" "Stand.__eq__" (defArgs sStand_eq) (defBody sStand_eq) (defScope sStand_eq) .none lV10 ec10 qm10 bn10 dd10 dt10), tl10⟩)
    (D10 : PySem.W.codeIn K dd10 "Stand.__eq__" = true)
    (N10 : PySem.W.keepIn K (.ref g10) = true)
    (T10 : PySem.W.typeIn K (.ref g10) = some (.type "function"))
    (M11 : PySem.W.findIn K (.ref CS) "renamed" = some (some (.ref g11)))
    (L11 : K.lookup g11 = some ⟨pc11, pd11, .func (PySem.W.fnOf "renamed" "Stand.renamed" (defArgs sStand_renamed) (defBody sStand_renamed) (defScope sStand_renamed) .none lV11 ec11 qm11 bn11 dd11 dt11), tl11⟩)
    (D11 : PySem.W.codeIn K dd11 "Stand.renamed" = true)
    (N11 : PySem.W.keepIn K (.ref g11) = true)
    (T11 : PySem.W.typeIn K (.ref g11) = some (.type "function"))
    (P0a : PySem.W.findIn K (.ref C) "persons" = some (some (.ref p0)))
    (P0b : PySem.W.specialIn K (.ref p0) "__get__" = some (some (.builtin "property.__get__")))
    (P0c : PySem.W.takesIn K (.ref p0) = some true)
    (P0d : PySem.W.recIn K p0 "property" = some (.ref g12 :: rest0))
    (L12 : K.lookup g12 = some ⟨pc12, pd12, .func (PySem.W.fnOf "persons" "History.persons" (defArgs sHistory_persons) (defBody sHistory_persons) (defScope sHistory_persons) .none lV12 ec12 qm12 bn12 dd12 dt12), tl12⟩)
    (D12 : PySem.W.codeIn K dd12 "History.persons" = true)
    (N12 : PySem.W.keepIn K (.ref g12) = true)
    (P1a : PySem.W.findIn K (.ref CS) "code" = some (some (.ref p1)))
    (P1b : PySem.W.specialIn K (.ref p1) "__get__" = some (some (.builtin "property.__get__")))
    (P1c : PySem.W.takesIn K (.ref p1) = some true)
    (P1d : PySem.W.recIn K p1 "property" = some (.ref g13 :: rest1))
    (L13 : K.lookup g13 = some ⟨pc13, pd13, .func (PySem.W.fnOf "code" "Stand.code" (defArgs sStand_code) (defBody sStand_code) (defScope sStand_code) .none lV13 ec13 qm13 bn13 dd13 dt13), tl13⟩)
    (D13 : PySem.W.codeIn K dd13 "Stand.code" = true)
    (N13 : PySem.W.keepIn K (.ref g13) = true)
    (P2a : PySem.W.findIn K (.ref CS) "persons" = some (some (.ref p2)))
    (P2b : PySem.W.specialIn K (.ref p2) "__get__" = some (some (.builtin "property.__get__")))
    (P2c : PySem.W.takesIn K (.ref p2) = some true)
    (P2d : PySem.W.recIn K p2 "property" = some (.ref g14 :: rest2))
    (L14 : K.lookup g14 = some ⟨pc14, pd14, .func (PySem.W.fnOf "persons" "Stand.persons" (defArgs sStand_persons) (defBody sStand_persons) (defScope sStand_persons) .none lV14 ec14 qm14 bn14 dd14 dt14), tl14⟩)
    (D14 : PySem.W.codeIn K dd14 "Stand.persons" = true)
    (N14 : PySem.W.keepIn K (.ref g14) = true)
    (M15 : PySem.W.findIn K (.ref C) "__init__" = some (some (.ref g15)))
    (L15 : K.lookup g15 = some ⟨pc15, pd15, .func (PySem.W.fnOf "__init__" "History.__init__" (defArgs sHistory_init) (defBody sHistory_init) (defScope sHistory_init) (.ref pT) lV15 ec15 qm15 bn15 dd15 dt15), tl15⟩)
    (D15 : PySem.W.codeIn K dd15 "History.__init__" = true)
    (N15 : PySem.W.keepIn K (.ref g15) = true)
    (T15 : PySem.W.typeIn K (.ref g15) = some (.type "function"))
    (H1 : K.lookup pT = some ⟨toc, tod, .seq #[.ref ed] tn, tsl⟩)
    (H2 : K.lookup ed = some ⟨.type "tuple", eod, .seq #[] en, esl⟩)
    (M16 : PySem.W.findIn K (.ref CS) "__init__" = some (some (.ref g16)))
    (L16 : K.lookup g16 = some ⟨pc16, pd16, .func (PySem.W.fnOf "__init__" "Stand.__init__" (defArgs sStand_init) (defBody sStand_init) (defScope sStand_init) (.ref pU) lV16 ec16 qm16 bn16 dd16 dt16), tl16⟩)
    (D16 : PySem.W.codeIn K dd16 "Stand.__init__" = true)
    (N16 : PySem.W.keepIn K (.ref g16) = true)
    (T16 : PySem.W.typeIn K (.ref g16) = some (.type "function"))
    (H3 : K.lookup pU = some ⟨uoc, uod, .seq #[.ref ee] un, usl⟩)
    (H4 : K.lookup ee = some ⟨.type "tuple", fod, .seq #[] fn, fsl⟩)
    (u1C : PySem.W.plainGet K C Str.empty = true)
    (u2C : PySem.W.hasDictIn K C = true)
    (u3C : PySem.W.plainOver K C = true)
    (u4C : PySem.W.findIn K (.ref C) "__setattr__" = some (some (.builtin "object.__setattr__")))
    (u5C_kinds : PySem.W.findIn K (.ref C) "kinds" = some none)
    (u5C_years : PySem.W.findIn K (.ref C) "years" = some none)
    (u6C : PySem.W.findIn K (.ref C) "__class__" = some (some (.builtin "object.__class__")))
    (u7C : PySem.W.mroIn K C (.type "object") = some true)
    (u8C : PySem.W.makesIn K C = true)
    (u9C : PySem.W.keepIn K (.ref C) = true)
    (uAC : PySem.W.findIn K (.ref C) "__ne__" = some (some (.builtin "object.__ne__")))
    (uCC : PySem.W.notFirst K C (.ref C) = true)
    (wC_NoneType : PySem.W.kitOne K (.type "NoneType") (.ref C) = some false)
    (wC_list : PySem.W.kitOne K (.type "list") (.ref C) = some false)
    (wC_str : PySem.W.kitOne K (.type "str") (.ref C) = some false)
    (wC_tuple : PySem.W.kitOne K (.type "tuple") (.ref C) = some false)
    (u1CK : PySem.W.plainGet K CK Str.empty = true)
    (u2CK : PySem.W.hasDictIn K CK = true)
    (u3CK : PySem.W.plainOver K CK = true)
    (u4CK : PySem.W.findIn K (.ref CK) "__setattr__" = some (some (.builtin "object.__setattr__")))
    (u5CK_rows : PySem.W.findIn K (.ref CK) "rows" = some none)
    (u5CK_names : PySem.W.findIn K (.ref CK) "names" = some none)
    (u5CK__arities : PySem.W.findIn K (.ref CK) "_arities" = some none)
    (u6CK : PySem.W.findIn K (.ref CK) "__class__" = some (some (.builtin "object.__class__")))
    (u7CK : PySem.W.mroIn K CK (.type "object") = some true)
    (u8CK : PySem.W.makesIn K CK = true)
    (u9CK : PySem.W.keepIn K (.ref CK) = true)
    (uACK : PySem.W.findIn K (.ref CK) "__ne__" = some (some (.builtin "object.__ne__")))
    (uCCK : PySem.W.notFirst K CK (.ref CK) = true)
    (wCK_NoneType : PySem.W.kitOne K (.type "NoneType") (.ref CK) = some false)
    (wCK_list : PySem.W.kitOne K (.type "list") (.ref CK) = some false)
    (wCK_str : PySem.W.kitOne K (.type "str") (.ref CK) = some false)
    (wCK_tuple : PySem.W.kitOne K (.type "tuple") (.ref CK) = some false)
    (u1CS : PySem.W.plainGet K CS Str.empty = true)
    (u2CS : PySem.W.hasDictIn K CS = true)
    (u3CS : PySem.W.plainOver K CS = true)
    (u4CS : PySem.W.findIn K (.ref CS) "__setattr__" = some (some (.builtin "object.__setattr__")))
    (u5CS_room : PySem.W.findIn K (.ref CS) "room" = some none)
    (u5CS_seats : PySem.W.findIn K (.ref CS) "seats" = some none)
    (u5CS_clocks : PySem.W.findIn K (.ref CS) "clocks" = some none)
    (u6CS : PySem.W.findIn K (.ref CS) "__class__" = some (some (.builtin "object.__class__")))
    (u7CS : PySem.W.mroIn K CS (.type "object") = some true)
    (u8CS : PySem.W.makesIn K CS = true)
    (u9CS : PySem.W.keepIn K (.ref CS) = true)
    (uACS : PySem.W.findIn K (.ref CS) "__ne__" = some (some (.builtin "object.__ne__")))
    (uCCS : PySem.W.notFirst K CS (.ref CS) = true)
    (wCS_NoneType : PySem.W.kitOne K (.type "NoneType") (.ref CS) = some false)
    (wCS_list : PySem.W.kitOne K (.type "list") (.ref CS) = some false)
    (wCS_str : PySem.W.kitOne K (.type "str") (.ref CS) = some false)
    (wCS_tuple : PySem.W.kitOne K (.type "tuple") (.ref CS) = some false)
    (wTC : PySem.W.kitOne K (.ref C) (.type "str") = some false)
    (wTCS : PySem.W.kitOne K (.ref CS) (.type "str") = some false)
    (q1 : PySem.W.specialIn K (.builtin "object.__class__") "__get__" = some (some (.builtin "getset_descriptor.__get__")))
    (q2 : PySem.W.takesIn K (.builtin "object.__class__") = some true)
    (nCB_year : PySem.W.findIn K (.ref CB) "year" = some none)
    (nCB_index : PySem.W.findIn K (.ref CB) "index" = some none)
    (nCB_what : PySem.W.findIn K (.ref CB) "what" = some none)
    (nCKB_index : PySem.W.findIn K (.ref CKB) "index" = some none)
    (nCKB_what : PySem.W.findIn K (.ref CKB) "what" = some none)
    (nCM_what : PySem.W.findIn K (.ref CM) "what" = some none)
    (nCSB_what : PySem.W.findIn K (.ref CSB) "what" = some none)
    (xCM : PySem.W.exmOne K (.ref CM) (.ref CM) = some true)
    (y2 : PySem.W.nsIn K mainGlobals "LONGEST_LABEL" = some (some (.int 6 t2)))
    (y3 : PySem.W.nsIn K mainGlobals "YEAR" = some (some (.str "year" t3)))
    (y4 : PySem.W.nsIn K mainGlobals "MOST_ARITY" = some (some (.int 2 t4)))
    (y5 : PySem.W.nsIn K mainGlobals "MOST_KINDS" = some (some (.int 6 t5)))
    (y6 : PySem.W.nsIn K mainGlobals "MOST_YEARS" = some (some (.int 1000000 t6)))
    (y7 : PySem.W.nsIn K mainGlobals "MOST_DEEDS" = some (some (.int 1000000 t7)))
    (y8 : PySem.W.nsIn K mainGlobals "MOST_SEATS" = some (some (.int 3 t8)))
    (y9 : PySem.W.nsIn K mainGlobals "MOST_CLOCKS" = some (some (.int 2 t9)))
    (yA : PySem.W.nsIn K mainGlobals "GREATEST_NUMBER" = some (some (.int 40 tA)))
    (o1CB : ∃ nm q N bs bm sn sub ab col dd k0 k1 k2 k3 k5, K.lookup CB = some (excClassObj nm q CB N bs bm true sn sub ab col dd k0 k1 k2 k3 k5 "ValueError.__new__") ∧ PySem.HandSPX.refsVE bm = true)
    (o2CB : PySem.W.findIn K (.ref CB) "__setattr__" = some (some (.builtin "object.__setattr__")))
    (o3CB : PySem.W.subIn K (.ref CB) (.type "BaseException") = some true)
    (o4CB : PySem.W.typeIn K (.ref CB) = some (.type "type"))
    (o5CB : PySem.W.keepIn K (.ref CB) = true)
    (o6CB : PySem.W.findIn K (.ref CB) "__getattribute__" = some (some (.builtin "BaseException.__getattribute__")))
    (o7CB : PySem.W.findIn K (.ref CB) "__getattr__" = some none)
    (o8CB : PySem.W.hasDictIn K CB = true)
    (o1CKB : ∃ nm q N bs bm sn sub ab col dd k0 k1 k2 k3 k5, K.lookup CKB = some (excClassObj nm q CKB N bs bm true sn sub ab col dd k0 k1 k2 k3 k5 "ValueError.__new__") ∧ PySem.HandSPX.refsVE bm = true)
    (o2CKB : PySem.W.findIn K (.ref CKB) "__setattr__" = some (some (.builtin "object.__setattr__")))
    (o3CKB : PySem.W.subIn K (.ref CKB) (.type "BaseException") = some true)
    (o4CKB : PySem.W.typeIn K (.ref CKB) = some (.type "type"))
    (o5CKB : PySem.W.keepIn K (.ref CKB) = true)
    (o6CKB : PySem.W.findIn K (.ref CKB) "__getattribute__" = some (some (.builtin "BaseException.__getattribute__")))
    (o7CKB : PySem.W.findIn K (.ref CKB) "__getattr__" = some none)
    (o8CKB : PySem.W.hasDictIn K CKB = true)
    (o1CM : ∃ nm q N bs bm sn sub ab col dd k0 k1 k2 k3 k5, K.lookup CM = some (excClassObj nm q CM N bs bm true sn sub ab col dd k0 k1 k2 k3 k5 "ValueError.__new__") ∧ PySem.HandSPX.refsVE bm = true)
    (o2CM : PySem.W.findIn K (.ref CM) "__setattr__" = some (some (.builtin "object.__setattr__")))
    (o3CM : PySem.W.subIn K (.ref CM) (.type "BaseException") = some true)
    (o4CM : PySem.W.typeIn K (.ref CM) = some (.type "type"))
    (o5CM : PySem.W.keepIn K (.ref CM) = true)
    (o6CM : PySem.W.findIn K (.ref CM) "__getattribute__" = some (some (.builtin "BaseException.__getattribute__")))
    (o7CM : PySem.W.findIn K (.ref CM) "__getattr__" = some none)
    (o8CM : PySem.W.hasDictIn K CM = true)
    (o1CSB : ∃ nm q N bs bm sn sub ab col dd k0 k1 k2 k3 k5, K.lookup CSB = some (excClassObj nm q CSB N bs bm true sn sub ab col dd k0 k1 k2 k3 k5 "ValueError.__new__") ∧ PySem.HandSPX.refsVE bm = true)
    (o2CSB : PySem.W.findIn K (.ref CSB) "__setattr__" = some (some (.builtin "object.__setattr__")))
    (o3CSB : PySem.W.subIn K (.ref CSB) (.type "BaseException") = some true)
    (o4CSB : PySem.W.typeIn K (.ref CSB) = some (.type "type"))
    (o5CSB : PySem.W.keepIn K (.ref CSB) = true)
    (o6CSB : PySem.W.findIn K (.ref CSB) "__getattribute__" = some (some (.builtin "BaseException.__getattribute__")))
    (o7CSB : PySem.W.findIn K (.ref CSB) "__getattr__" = some none)
    (o8CSB : PySem.W.hasDictIn K CSB = true)
    (z_int : PySem.W.nsIn K mainGlobals "int" = some none)
    (z_abs : PySem.W.nsIn K mainGlobals "abs" = some none)
    (z_len : PySem.W.nsIn K mainGlobals "len" = some none)
    (z_enumerate : PySem.W.nsIn K mainGlobals "enumerate" = some none)
    (z_range : PySem.W.nsIn K mainGlobals "range" = some none)
    (z_isinstance : PySem.W.nsIn K mainGlobals "isinstance" = some none)
    (z_str : PySem.W.nsIn K mainGlobals "str" = some none)
    (z_bool : PySem.W.nsIn K mainGlobals "bool" = some none)
    (z_list : PySem.W.nsIn K mainGlobals "list" = some none)
    (z_tuple : PySem.W.nsIn K mainGlobals "tuple" = some none)
    (z_sum : PySem.W.nsIn K mainGlobals "sum" = some none)
    (z_repr : PySem.W.nsIn K mainGlobals "repr" = some none)
    (z_dict : PySem.W.nsIn K mainGlobals "dict" = some none)
    (z_set : PySem.W.nsIn K mainGlobals "set" = some none) :
    ∀ (base : Heap) (s : Shared) (H : Hp) (a : Addr) (ns : List Int), K.In base → base.Ns mainGlobals mg → Env0 l.prog w K mg base callerA [] s H → SqL K H a (ns.map V.int) → ns.length ≤ 63 →
      codeAny (model l.prog w) callerA (.call (.ref fa) ⟨[.ref a], []⟩) (CR CX0 [] l.prog w H s QT EF) s := by
  have e := hfa.symm.trans (PySem.W.mg_of X G a29)
  cases e
  intro base s H a ns _ _ e0 hS hn
  have T : Bl mg := ⟨(PySem.W.mg_none_of X G z_int), (PySem.W.mg_none_of X G z_abs), (PySem.W.mg_none_of X G z_len), (PySem.W.mg_none_of X G z_enumerate), (PySem.W.mg_none_of X G z_range)⟩
  have B : Bm mg := ⟨(PySem.W.mg_none_of X G z_isinstance), (PySem.W.mg_none_of X G z_str), (PySem.W.mg_none_of X G z_bool), (PySem.W.mg_none_of X G z_list), (PySem.W.mg_none_of X G z_tuple), ⟨_, PySem.W.mg_of X G y2⟩⟩
  have Db : Bd mg := ⟨(PySem.W.mg_none_of X G z_dict), (PySem.W.mg_none_of X G z_set)⟩
  have R : Rp mg := ⟨(PySem.W.mg_none_of X G z_repr)⟩
  have Mm : Km mg := ⟨⟨_, PySem.W.mg_of X G y3⟩, ⟨_, PySem.W.mg_of X G y4⟩, ⟨_, PySem.W.mg_of X G y5⟩⟩
  have Mh : Hm mg := ⟨⟨_, PySem.W.mg_of X G y6⟩, ⟨_, PySem.W.mg_of X G y7⟩, (PySem.W.mg_none_of X G z_sum)⟩
  have Msm : Sm7 mg := ⟨⟨_, PySem.W.mg_of X G y8⟩, ⟨_, PySem.W.mg_of X G y9⟩, ⟨_, PySem.W.mg_of X G yA⟩⟩
  have KX : KC K CK := ⟨⟨u1CK, u2CK, u3CK, u4CK⟩, u5CK_rows, u5CK_names, u5CK__arities, u6CK, q1, q2, u7CK, wCK_tuple⟩
  have HX : HC K C := ⟨⟨u1C, u2C, u3C, u4C⟩, u5C_kinds, u5C_years, u6C, q1, q2, u7C⟩
  have SX : SC K CS := ⟨⟨u1CS, u2CS, u3CS, u4CS⟩, u5CS_room, u5CS_seats, u5CS_clocks, u6CS, q1, q2, u7CS⟩
  have NK : NotOf K CK := ⟨wCK_NoneType, wCK_list, wCK_str, wCK_tuple⟩
  have NH : NotOf K C := ⟨wC_NoneType, wC_list, wC_str, wC_tuple⟩
  have XCB : XfC K CB := ⟨o6CB, o7CB, o3CB, o8CB⟩
  have OCB : OexC K CB := ⟨o1CB, o2CB, o3CB, o4CB, o5CB⟩
  have XCKB : XfC K CKB := ⟨o6CKB, o7CKB, o3CKB, o8CKB⟩
  have OCKB : OexC K CKB := ⟨o1CKB, o2CKB, o3CKB, o4CKB, o5CKB⟩
  have XCM : XfC K CM := ⟨o6CM, o7CM, o3CM, o8CM⟩
  have OCM : OexC K CM := ⟨o1CM, o2CM, o3CM, o4CM, o5CM⟩
  have XCSB : XfC K CSB := ⟨o6CSB, o7CSB, o3CSB, o8CSB⟩
  have OCSB : OexC K CSB := ⟨o1CSB, o2CSB, o3CSB, o4CSB, o5CSB⟩
  have mix := ok_mix (P := l.prog) (w := w) (mg := mg) (base := base) (fun_mk (st := sMix) l11 c11 k11) (PySem.W.mg_of X G a11) T
  have draw := ok_draw (P := l.prog) (w := w) (mg := mg) (base := base) (fun_mk (st := sDraw) l13 c13 k13) (PySem.W.mg_of X G a13) T mix
  have hand := ok_hand (P := l.prog) (w := w) (mg := mg) (base := base) (fun_mk (st := sHand) l12 c12 k12) (PySem.W.mg_of X G a12) T
  have one := ok_one (P := l.prog) (w := w) (mg := mg) (base := base) (fun_mk (st := sOne) l14 c14 k14) (PySem.W.mg_of X G a14) T draw
  have word := ok_word (P := l.prog) (w := w) (mg := mg) (base := base) (fun_mk (st := sWord) l15 c15 k15) (PySem.W.mg_of X G a15) T draw
  have whole := ok_whole (P := l.prog) (w := w) (mg := mg) (base := base) (fun_mk (st := sWhole) l0 c0 k0) (PySem.W.mg_of X G a0) T B
  have label := ok_label (P := l.prog) (w := w) (mg := mg) (base := base) (fun_mk (st := sLabel) l1 c1 k1) (PySem.W.mg_of X G a1) T B
  have seq := ok_seq (P := l.prog) (w := w) (mg := mg) (base := base) (fun_mk (st := sSeq) l2 c2 k2) (PySem.W.mg_of X G a2) B
  have seqK := ok_seqK (P := l.prog) (w := w) (mg := mg) (base := base) (fun_mk (st := sSeq) l2 c2 k2) (PySem.W.mg_of X G a2) B
  have llab := ok_llab (P := l.prog) (w := w) (mg := mg) (base := base) (fun_mk (st := sLLabel) l16 c16 k16) (PySem.W.mg_of X G a16) T B
  have rowf := ok_rowfault (P := l.prog) (w := w) (mg := mg) (base := base) (fun_mk (st := sRowFault) l3 c3 k3) (PySem.W.mg_of X G a3) T B Mm seq label whole
  have EKB : ErC l.prog w K mg base "BadKinds" ["self", "index", "what"] CKB g0 _ (spInit2 K CKB "index" "what") := ⟨OCKB, M0, T0, PySem.W.mg_of X G mCKB, (fun_mk (st := sBadKinds_init) L0 D0 N0).binds (fun _ _ _ _ _ _ us hl => match us, hl with | [_, _, _], _ => rfl), ok_BadKinds (fun_mk (st := sBadKinds_init) L0 D0 N0), XCKB⟩
  have EB0 : ErC l.prog w K mg base "BadHistory" ["self", "year", "index", "what"] CB g1 _ (spInit3 K CB "year" "index" "what") := ⟨OCB, M1, T1, PySem.W.mg_of X G mCB, (fun_mk (st := sBadHistory_init) L1 D1 N1).binds (fun _ _ _ _ _ _ us hl => match us, hl with | [_, _, _, _], _ => rfl), ok_BadHistory (fun_mk (st := sBadHistory_init) L1 D1 N1), XCB⟩
  have RCM : ErC l.prog w K mg base "BadMap" ["self", "what"] CM g2 _ (spInit1 K CM "what") := ⟨OCM, M2, T2, PySem.W.mg_of X G mCM, (fun_mk (st := sBadMap_init) L2 D2 N2).binds (fun _ _ _ _ _ _ us hl => match us, hl with | [_, _], _ => rfl), ok_BadMap (fun_mk (st := sBadMap_init) L2 D2 N2), XCM⟩
  have RCSB : ErC l.prog w K mg base "BadStand" ["self", "what"] CSB g3 _ (spInit1 K CSB "what") := ⟨OCSB, M3, T3, PySem.W.mg_of X G mCSB, (fun_mk (st := sBadStand_init) L3 D3 N3).binds (fun _ _ _ _ _ _ us hl => match us, hl with | [_, _], _ => rfl), ok_BadStand (fun_mk (st := sBadStand_init) L3 D3 N3), XCSB⟩
  have EB : BH l.prog w K mg base CB g1 _ := ⟨EB0, nCB_year, nCB_index, nCB_what⟩
  have YM : ErY K mg "BadMap" CM := ⟨PySem.W.mg_of X G mCM, XCM, nCM_what, xCM⟩
  have mH := PySem.W.mg_of X G mC
  have mK := PySem.W.mg_of X G mCK
  have mS := PySem.W.mg_of X G mCS
  have MK : Mk K CK g4 := ⟨u8CK, M4, (by unfold PySem.W.isFn; rw [T4]; rfl), u9CK⟩
  have GK := ok_kinds (P := l.prog) (w := w) (mg := mg) (base := base) (fun_mk (st := sKinds_init) L4 D4 N4) T B Mm KX seq rowf EKB nCKB_index nCKB_what
  have bK := (fun_mk (st := sKinds_init) L4 D4 N4).binds (ps := ["self", "rows"]) (fun _ _ _ _ _ _ us hl => match us, hl with | [_, _], _ => rfl)
  have oE : OwnM l.prog w K mg base CK "__eq__" 1 ["self", "other"] (spKEq CK) g5 _ := ⟨⟨M5, (by unfold PySem.W.isFn; rw [T5]; rfl), N5⟩, ok_keq (fun_mk (st := sKinds_eq) L5 D5 N5) B KX mK, (fun_mk (st := sKinds_eq) L5 D5 N5).binds (fun _ _ _ _ _ _ us hl => match us, hl with | [_, _], _ => rfl)⟩
  have oI : OwnM l.prog w K mg base CK "__contains__" 1 ["self", "thing"] (spKIn CK) g6 _ := ⟨⟨M6, (by unfold PySem.W.isFn; rw [T6]; rfl), N6⟩, ok_kin (fun_mk (st := sKinds_contains) L6 D6 N6) B KX, (fun_mk (st := sKinds_contains) L6 D6 N6).binds (fun _ _ _ _ _ _ us hl => match us, hl with | [_, _], _ => rfl)⟩
  have oF : OwnM l.prog w K mg base CK "fault" 2 ["self", "deed"] (spFault CK) g7 _ := ⟨⟨M7, (by unfold PySem.W.isFn; rw [T7]; rfl), N7⟩, ok_fault (fun_mk (st := sKinds_fault) L7 D7 N7) T KX oI seq label, (fun_mk (st := sKinds_fault) L7 D7 N7).binds (fun _ _ _ _ _ _ us hl => match us, hl with | [_, _], _ => rfl)⟩
  have long := ok_long (P := l.prog) (w := w) (mg := mg) (base := base) (fun_mk (st := sIsTooLong) l6 c6 k6) (PySem.W.mg_of X G a6) T Mh seqK
  have yearof := ok_yearof (P := l.prog) (w := w) (mg := mg) (base := base) (fun_mk (st := sYearOf) l7 c7 k7) (PySem.W.mg_of X G a7) T B KX seqK oF EB
  have bY := (fun_mk (st := sYearOf) l7 c7 k7).binds (ps := ["kinds", "index", "year"]) (fun _ _ _ _ _ _ us hl => match us, hl with | [_, _, _], _ => rfl)
  have FI : FunD K "__init__" "History.__init__" (defArgs sHistory_init) (defBody sHistory_init) (defScope sHistory_init) [V.ref ed] [] g15 _ := ⟨⟨_, _, _, _, _, _, _, _, _, _, rfl, L15, D15, .inr ⟨by simp, pT, _, [.ref ed], _, rfl, H1, rfl, .cons rfl .nil⟩, .inl rfl⟩, N15⟩
  have MH : Mk K C g15 := ⟨u8C, M15, (by unfold PySem.W.isFn; rw [T15]; rfl), u9C⟩
  have GH := ok_hist (P := l.prog) (w := w) (mg := mg) (base := base) (C := C) FI T B KX HX NK mK seqK long yearof (PySem.W.mg_of X G a7) k7 bY EB
  have bH := hist_binds3 FI
  have we : Wnil K ed := ⟨_, H2, rfl, _, rfl⟩
  have rdH : Vals [V.ref ed] [Value.ref ed] := .cons rfl .nil
  have bHD := hist_binds2 FI
  have oHE : OwnM l.prog w K mg base C "__eq__" 2 ["self", "other"] (spHEq C CK) g8 _ := ⟨⟨M8, (by unfold PySem.W.isFn; rw [T8]; rfl), N8⟩, ok_heq (fun_mk (st := sHistory_eq) L8 D8 N8) B HX KX NH mH oE uCCK, (fun_mk (st := sHistory_eq) L8 D8 N8).binds (fun _ _ _ _ _ _ us hl => match us, hl with | [_, _], _ => rfl)⟩
  have histof := ok_histof (P := l.prog) (w := w) (mg := mg) (base := base) (fun_mk (st := sHistoryOf) l5 c5 k5) (PySem.W.mg_of X G a5) HX mH MH we GH bHD rdH
  have FS : FunD K "__init__" "Stand.__init__" (defArgs sStand_init) (defBody sStand_init) (defScope sStand_init) [V.ref ee] [] g16 _ := ⟨⟨_, _, _, _, _, _, _, _, _, _, rfl, L16, D16, .inr ⟨by simp, pU, _, [.ref ee], _, rfl, H3, rfl, .cons rfl .nil⟩, .inl rfl⟩, N16⟩
  have MS : Mk K CS g16 := ⟨u8CS, M16, (by unfold PySem.W.isFn; rw [T16]; rfl), u9CS⟩
  have clockf := ok_clockfault (P := l.prog) (w := w) (mg := mg) (base := base) (fun_mk (st := sClockFault) l10 c10 k10) (PySem.W.mg_of X G a10) T B Msm seq whole
  have GS := ok_stand (P := l.prog) (w := w) (mg := mg) (base := base) (C := CS) FS T B Msm SX seqK label clockf RCSB nCSB_what
  have bS := stand_binds4 FS
  obtain ⟨dsD, rdD, bDD⟩ := stand_binds3 FS
  have sit := ok_sit (P := l.prog) (w := w) (mg := mg) (base := base) (fun_mk (st := sSitters) l9 c9 k9) (PySem.W.mg_of X G a9) B
  have mapf := ok_mapfault (P := l.prog) (w := w) (mg := mg) (base := base) (fun_mk (st := sMapFault) l4 c4 k4) (PySem.W.mg_of X G a4) T B Db label
  have reny := ok_renyear (P := l.prog) (w := w) (mg := mg) (base := base) (fun_mk (st := sRenamedYear) l8 c8 k8) (PySem.W.mg_of X G a8) B
  have P0 : PropOf K C "persons" p0 g12 := ⟨P0a, P0b, P0c, _, P0d⟩
  have bp0 := (fun_mk (st := sHistory_persons) L12 D12 N12).binds (ps := ["self"]) (fun _ _ _ _ _ _ us hl => match us, hl with | [_], _ => rfl)
  have P1 : PropOf K CS "code" p1 g13 := ⟨P1a, P1b, P1c, _, P1d⟩
  have bp1 := (fun_mk (st := sStand_code) L13 D13 N13).binds (ps := ["self"]) (fun _ _ _ _ _ _ us hl => match us, hl with | [_], _ => rfl)
  have P2 : PropOf K CS "persons" p2 g14 := ⟨P2a, P2b, P2c, _, P2d⟩
  have bp2 := (fun_mk (st := sStand_persons) L14 D14 N14).binds (ps := ["self"]) (fun _ _ _ _ _ _ us hl => match us, hl with | [_], _ => rfl)
  have GP0 := ok_pers (P := l.prog) (w := w) (mg := mg) (base := base) (C := C) (CK := CK) (fun_mk (st := sHistory_persons) L12 D12 N12) B HX
  have GP1 := ok_code (P := l.prog) (w := w) (mg := mg) (base := base) (C := CS) (fun_mk (st := sStand_code) L13 D13 N13) SX
  have GP2 := ok_spers (P := l.prog) (w := w) (mg := mg) (base := base) (C := CS) (fun_mk (st := sStand_persons) L14 D14 N14) SX sit
  have oSE : OwnM l.prog w K mg base CS "__eq__" 3 ["self", "other"] (spSEq CS) g10 _ := ⟨⟨M10, (by unfold PySem.W.isFn; rw [T10]; rfl), N10⟩, ok_standeq (P := l.prog) (w := w) (mg := mg) (base := base) (fun_mk (st := sStand_eq) L10 D10 N10) B SX mS wCS_tuple P1 GP1 bp1, (fun_mk (st := sStand_eq) L10 D10 N10).binds (fun _ _ _ _ _ _ us hl => match us, hl with | [_, _], _ => rfl)⟩
  have MRH : Meth K C "renamed" g9 := ⟨M9, (by unfold PySem.W.isFn; rw [T9]; rfl), N9⟩
  have GRH := ok_hrenamed (P := l.prog) (w := w) (mg := mg) (base := base) (fun_mk (st := sHistory_renamed) L9 D9 N9) HX B mapf P0 GP0 bp0 reny histof RCM nCM_what
  have bRH := (fun_mk (st := sHistory_renamed) L9 D9 N9).binds (ps := ["self", "names"]) (fun _ _ _ _ _ _ us hl => match us, hl with | [_, _], _ => rfl)
  have MRS : Meth K CS "renamed" g11 := ⟨M11, (by unfold PySem.W.isFn; rw [T11]; rfl), N11⟩
  have GRS := ok_renamed (P := l.prog) (w := w) (mg := mg) (base := base) (fun_mk (st := sStand_renamed) L11 D11 N11) SX mapf P2 GP2 bp2 MS GS mS bS RCM nCM_what
  have bRS := (fun_mk (st := sStand_renamed) L11 D11 N11).binds (ps := ["self", "names"]) (fun _ _ _ _ _ _ us hl => match us, hl with | [_, _], _ => rfl)
  have odd := ok_odd2 (P := l.prog) (w := w) (mg := mg) (base := base) (fun_mk (st := sOdd) l17 c17 k17) (PySem.W.mg_of X G a17) word one
  have lkinds := ok_lkinds (P := l.prog) (w := w) (mg := mg) (base := base) (fun_mk (st := sLKinds) l18 c18 k18) (PySem.W.mg_of X G a18) T draw word
  have pers := ok_persons (P := l.prog) (w := w) (mg := mg) (base := base) (fun_mk (st := sLPersons) l20 c20 k20) (PySem.W.mg_of X G a20) T draw word one
  have made := ok_made (P := l.prog) (w := w) (mg := mg) (base := base) (fun_mk (st := sLMadeDeed) l19 c19 k19) (PySem.W.mg_of X G a19) T one
  have told := ok_told (P := l.prog) (w := w) (mg := mg) (base := base) (fun_mk (st := sLToldYears) l21 c21 k21) (PySem.W.mg_of X G a21) T draw made
  have tups := ok_tuples (P := l.prog) (w := w) (mg := mg) (base := base) (fun_mk (st := sLTuples) l22 c22 k22) (PySem.W.mg_of X G a22) B
  have named := ok_named (P := l.prog) (w := w) (mg := mg) (base := base) (fun_mk (st := sLNamed) l23 c23 k23) (PySem.W.mg_of X G a23) 
  have lnames := ok_names (P := l.prog) (w := w) (mg := mg) (base := base) (fun_mk (st := sLNames) l24 c24 k24) (PySem.W.mg_of X G a24) T draw word
  have spoil := ok_spoil (P := l.prog) (w := w) (mg := mg) (base := base) (fun_mk (st := sLSpoil) l25 c25 k25) (PySem.W.mg_of X G a25) T draw one odd
  have ldue := ok_due (P := l.prog) (w := w) (mg := mg) (base := base) (fun_mk (st := sLDue) l26 c26 k26) (PySem.W.mg_of X G a26) T llab
  have led := ok_led (P := l.prog) (w := w) (mg := mg) (base := base) (fun_mk (st := sLLed) l27 c27 k27) (PySem.W.mg_of X G a27) B
  have tried := ok_ltried (P := l.prog) (w := w) (mg := mg) (base := base) (fun_mk (st := sLTried) l28 c28 k28) (PySem.W.mg_of X G a28) HX SX MRH GRH bRH MRS GRS bRS YM
  have weS : ∃ b, V.ref ee = .ref b ∧ IsSeq K (fun _ => none) b [] ∧ ∀ H : Hp, SqT K H b [] := ⟨ee, rfl, .wr H4 rfl (fun H => .inr ⟨_, _, _, H4, rfl, rfl, Nat.zero_le _, .nil⟩), fun H => .inr ⟨_, _, _, H4, rfl, rfl, Nat.zero_le _, .nil⟩⟩
  have A : All5 l.prog w K mg base C CK CS CB CKB CSB CM g4 g15 g16 g9 g12 g14 g5 g8 g10 p0 p2 _ _ _ _ _ _ _ _ _ (V.ref ee) dsD := { hand := hand, draw := draw, one := one, kinds := lkinds, persons := pers, told := told, tuples := tups, named := named, names := lnames, spoil := spoil, due := ldue, led := led, tried := tried, mapf := mapf, KX := KX, HX := HX, SX := SX, mK := mK, mH := mH, mS := mS, MK := MK, GK := GK, bK := bK, MH := MH, GH := GH, bH := bH, MS := MS, GS := GS, bS := bS, bD := bDD, rd := rdD, we := weS, EK := oE, EH := oHE, ES := oSE, neK := uACK, neH := uAC, neS := uACS, nf := uCC, nfS := uCCS, MR := MRH, GR := GRH, bR := bRH, PP := P0, GP := GP0, bP := bp0, PS := P2, GPS := GP2, bPS := bp2, tH := wTC, tS := wTCS }
  exact law_at (fun_mk (st := sLaw) l29 c29 k29) scLaw ⟨rfl, by decide, by decide⟩ (law_body T B R A) (fun s v => .of_eq rfl) e0 hS hn
end Kx

set_option maxHeartbeats 8000000
namespace Kx
open PySem PySem.W PySem.Calls PyProof.Rows
abbrev hR : OpenRow := OpenLaw.row PySem.Challenge.rw_searchback_k05_whole_renamed_there_and_b
abbrev hq : Program := view hR.prog [56]
def hnames0 : List PySem.Str := ["_wall", "SearchError", "BadKinds", "BadHistory", "BadYears", "BadMap", "BadStand", "LONGEST_LABEL", "is_whole", "is_label", "is_sequence", "MOST_KINDS", "MOST_ARITY", "YEAR", "Kinds", "_row_fault", "MOST_YEARS", "MOST_DEEDS", "map_fault", "History", "history_of", "_last_of", "_is_too_long", "_year_of", "_renamed_year"]
def hnames1 : List PySem.Str := ["sitters", "MOST_SEATS", "MOST_CLOCKS", "GREATEST_NUMBER", "Stand", "_clock_fault", "_law_mix", "_law_hand", "_law_draw", "_law_one", "_law_word", "_law_label", "_law_odd", "_law_kinds", "_law_made_deed", "_law_persons", "_law_told_years", "_law_tuples", "_law_named", "_law_names", "_law_spoil", "_law_due", "_law_led", "_law_tried"]
def hnames : List PySem.Str := hnames0 ++ hnames1

def kob (as : List Addr) (s : SharedT) : List (Option Obj) := as.map (HandSHeadRun.getT s)
set_option maxHeartbeats 0 in
theorem head_k (K : Params → Frag) (as : List Addr) (e : ∀ P, as = (K P).map (·.1)) (run : ∀ w, HandSHeadRun.RunEq hR hq (kHook K as e) (kob as) 12000 hnames w) (k1 : hR.wellSaid = true) (hw : hR.toRowW.promised)
    (call : WalkO hq hnames (XL hq []) (kHook K as e).says hR.toRowW (HandSHeadRun.topDef hR.prog 56) [] fun f vs => PySem.call f vs) : hR.Holds :=
  HandSHeadRun.head_any (r := hR) (q := hq) (H := kHook K as e) (ob := kob as) (M := 12000) (loose := hnames) (d := HandSHeadRun.topDef hR.prog 56) (kwd := []) (fun s => congrArg (fun g => as.map g) (funext (HandSHeadRun.getT_eq s)))
    (by kernel_rfl) (fun s => by kernel_rfl) run (by kernel_rfl) (by kernel_rfl) (by kernel_rfl) (by rfl) k1 (by decide +kernel) ⟨rfl, rfl, rfl, rfl, rfl, by decide +kernel⟩ hw call
end Kx
open PySem PySem.W PyProof.Rows
local macro_rules
  | `(tactic| o_head ($_:ident $K:term $a:term $e:term)) => `(tactic| refine Kx.head_k $K $a $e (fun w => (by intro os; kernel_rfl)) (by first | assumption | decide +kernel) ?hw ?hc)
set_option maxRecDepth 100000 in
set_option maxHeartbeats 0 in
theorem PySem.Challenge.cw_searchback_k05_whole_renamed_there_and_b_holds : PySem.Challenge.rw_searchback_k05_whole_renamed_there_and_b.Holds := by
  w_on; o_law; k_head; (case hw => w_witness2)
  k_fill
  refine Kx.law_walk (l := PySem.Challenge.rw_searchback_k05_whole_renamed_there_and_b) rfl (by kernel_rfl) (fun w h Y => PySem.W.kIn_of Y) ?F
  case F =>
    intro w mg fa h KX G hmg0
    have hmg : mg ("law" : PySem.Str) = some (.ref fa) := by
      have e : (HandSHeadRun.topDef Kx.hR.prog 56).name = ("law" : PySem.Str) := by kernel_rfl
      rw [← e]
      exact hmg0
    refine' Kx.all_mk KX G hmg ?a0 ?l0 ?c0 ?k0 ?a1 ?l1 ?c1 ?k1 ?a2 ?l2 ?c2 ?k2 ?a3 ?l3 ?c3 ?k3 ?a4 ?l4 ?c4 ?k4 ?a5 ?l5 ?c5 ?k5 ?a6 ?l6 ?c6 ?k6 ?a7 ?l7 ?c7 ?k7 ?a8 ?l8 ?c8 ?k8 ?a9 ?l9 ?c9 ?k9 ?a10 ?l10 ?c10 ?k10 ?a11 ?l11 ?c11 ?k11 ?a12 ?l12 ?c12 ?k12 ?a13 ?l13 ?c13 ?k13 ?a14 ?l14 ?c14 ?k14 ?a15 ?l15 ?c15 ?k15 ?a16 ?l16 ?c16 ?k16 ?a17 ?l17 ?c17 ?k17 ?a18 ?l18 ?c18 ?k18 ?a19 ?l19 ?c19 ?k19 ?a20 ?l20 ?c20 ?k20 ?a21 ?l21 ?c21 ?k21 ?a22 ?l22 ?c22 ?k22 ?a23 ?l23 ?c23 ?k23 ?a24 ?l24 ?c24 ?k24 ?a25 ?l25 ?c25 ?k25 ?a26 ?l26 ?c26 ?k26 ?a27 ?l27 ?c27 ?k27 ?a28 ?l28 ?c28 ?k28 ?a29 ?l29 ?c29 ?k29 ?mC ?mCK ?mCS ?mCB ?mCKB ?mCM ?mCSB ?M0 ?L0 ?D0 ?N0 ?T0 ?M1 ?L1 ?D1 ?N1 ?T1 ?M2 ?L2 ?D2 ?N2 ?T2 ?M3 ?L3 ?D3 ?N3 ?T3 ?M4 ?L4 ?D4 ?N4 ?T4 ?M5 ?L5 ?D5 ?N5 ?T5 ?M6 ?L6 ?D6 ?N6 ?T6 ?M7 ?L7 ?D7 ?N7 ?T7 ?M8 ?L8 ?D8 ?N8 ?T8 ?M9 ?L9 ?D9 ?N9 ?T9 ?M10 ?L10 ?D10 ?N10 ?T10 ?M11 ?L11 ?D11 ?N11 ?T11 ?P0a ?P0b ?P0c ?P0d ?L12 ?D12 ?N12 ?P1a ?P1b ?P1c ?P1d ?L13 ?D13 ?N13 ?P2a ?P2b ?P2c ?P2d ?L14 ?D14 ?N14 ?M15 ?L15 ?D15 ?N15 ?T15 ?H1 ?H2 ?M16 ?L16 ?D16 ?N16 ?T16 ?H3 ?H4 ?u1C ?u2C ?u3C ?u4C ?u5C_kinds ?u5C_years ?u6C ?u7C ?u8C ?u9C ?uAC ?uCC ?wC_NoneType ?wC_list ?wC_str ?wC_tuple ?u1CK ?u2CK ?u3CK ?u4CK ?u5CK_rows ?u5CK_names ?u5CK__arities ?u6CK ?u7CK ?u8CK ?u9CK ?uACK ?uCCK ?wCK_NoneType ?wCK_list ?wCK_str ?wCK_tuple ?u1CS ?u2CS ?u3CS ?u4CS ?u5CS_room ?u5CS_seats ?u5CS_clocks ?u6CS ?u7CS ?u8CS ?u9CS ?uACS ?uCCS ?wCS_NoneType ?wCS_list ?wCS_str ?wCS_tuple ?wTC ?wTCS ?q1 ?q2 ?nCB_year ?nCB_index ?nCB_what ?nCKB_index ?nCKB_what ?nCM_what ?nCSB_what ?xCM ?y2 ?y3 ?y4 ?y5 ?y6 ?y7 ?y8 ?y9 ?yA ?o1CB ?o2CB ?o3CB ?o4CB ?o5CB ?o6CB ?o7CB ?o8CB ?o1CKB ?o2CKB ?o3CKB ?o4CKB ?o5CKB ?o6CKB ?o7CKB ?o8CKB ?o1CM ?o2CM ?o3CM ?o4CM ?o5CM ?o6CM ?o7CM ?o8CM ?o1CSB ?o2CSB ?o3CSB ?o4CSB ?o5CSB ?o6CSB ?o7CSB ?o8CSB ?z_int ?z_abs ?z_len ?z_enumerate ?z_range ?z_isinstance ?z_str ?z_bool ?z_list ?z_tuple ?z_sum ?z_repr ?z_dict ?z_set
    (case a0 => first | k_is | exact rfl | kernel_rfl | decide +kernel)
    (case l0 => first | k_is | exact rfl | kernel_rfl | decide +kernel)
    (case c0 => first | k_is | exact rfl | kernel_rfl | decide +kernel)
    (case k0 => first | k_is | exact rfl | kernel_rfl | decide +kernel)
    (case a1 => first | k_is | exact rfl | kernel_rfl | decide +kernel)
    (case l1 => first | k_is | exact rfl | kernel_rfl | decide +kernel)
    (case c1 => first | k_is | exact rfl | kernel_rfl | decide +kernel)
    (case k1 => first | k_is | exact rfl | kernel_rfl | decide +kernel)
    (case a2 => first | k_is | exact rfl | kernel_rfl | decide +kernel)
    (case l2 => first | k_is | exact rfl | kernel_rfl | decide +kernel)
    (case c2 => first | k_is | exact rfl | kernel_rfl | decide +kernel)
    (case k2 => first | k_is | exact rfl | kernel_rfl | decide +kernel)
    (case a3 => first | k_is | exact rfl | kernel_rfl | decide +kernel)
    (case l3 => first | k_is | exact rfl | kernel_rfl | decide +kernel)
    (case c3 => first | k_is | exact rfl | kernel_rfl | decide +kernel)
    (case k3 => first | k_is | exact rfl | kernel_rfl | decide +kernel)
    (case a4 => first | k_is | exact rfl | kernel_rfl | decide +kernel)
    (case l4 => first | k_is | exact rfl | kernel_rfl | decide +kernel)
    (case c4 => first | k_is | exact rfl | kernel_rfl | decide +kernel)
    (case k4 => first | k_is | exact rfl | kernel_rfl | decide +kernel)
    (case a5 => first | k_is | exact rfl | kernel_rfl | decide +kernel)
    (case l5 => first | k_is | exact rfl | kernel_rfl | decide +kernel)
    (case c5 => first | k_is | exact rfl | kernel_rfl | decide +kernel)
    (case k5 => first | k_is | exact rfl | kernel_rfl | decide +kernel)
    (case a6 => first | k_is | exact rfl | kernel_rfl | decide +kernel)
    (case l6 => first | k_is | exact rfl | kernel_rfl | decide +kernel)
    (case c6 => first | k_is | exact rfl | kernel_rfl | decide +kernel)
    (case k6 => first | k_is | exact rfl | kernel_rfl | decide +kernel)
    (case a7 => first | k_is | exact rfl | kernel_rfl | decide +kernel)
    (case l7 => first | k_is | exact rfl | kernel_rfl | decide +kernel)
    (case c7 => first | k_is | exact rfl | kernel_rfl | decide +kernel)
    (case k7 => first | k_is | exact rfl | kernel_rfl | decide +kernel)
    (case a8 => first | k_is | exact rfl | kernel_rfl | decide +kernel)
    (case l8 => first | k_is | exact rfl | kernel_rfl | decide +kernel)
    (case c8 => first | k_is | exact rfl | kernel_rfl | decide +kernel)
    (case k8 => first | k_is | exact rfl | kernel_rfl | decide +kernel)
    (case a9 => first | k_is | exact rfl | kernel_rfl | decide +kernel)
    (case l9 => first | k_is | exact rfl | kernel_rfl | decide +kernel)
    (case c9 => first | k_is | exact rfl | kernel_rfl | decide +kernel)
    (case k9 => first | k_is | exact rfl | kernel_rfl | decide +kernel)
    (case a10 => first | k_is | exact rfl | kernel_rfl | decide +kernel)
    (case l10 => first | k_is | exact rfl | kernel_rfl | decide +kernel)
    (case c10 => first | k_is | exact rfl | kernel_rfl | decide +kernel)
    (case k10 => first | k_is | exact rfl | kernel_rfl | decide +kernel)
    (case a11 => first | k_is | exact rfl | kernel_rfl | decide +kernel)
    (case l11 => first | k_is | exact rfl | kernel_rfl | decide +kernel)
    (case c11 => first | k_is | exact rfl | kernel_rfl | decide +kernel)
    (case k11 => first | k_is | exact rfl | kernel_rfl | decide +kernel)
    (case a12 => first | k_is | exact rfl | kernel_rfl | decide +kernel)
    (case l12 => first | k_is | exact rfl | kernel_rfl | decide +kernel)
    (case c12 => first | k_is | exact rfl | kernel_rfl | decide +kernel)
    (case k12 => first | k_is | exact rfl | kernel_rfl | decide +kernel)
    (case a13 => first | k_is | exact rfl | kernel_rfl | decide +kernel)
    (case l13 => first | k_is | exact rfl | kernel_rfl | decide +kernel)
    (case c13 => first | k_is | exact rfl | kernel_rfl | decide +kernel)
    (case k13 => first | k_is | exact rfl | kernel_rfl | decide +kernel)
    (case a14 => first | k_is | exact rfl | kernel_rfl | decide +kernel)
    (case l14 => first | k_is | exact rfl | kernel_rfl | decide +kernel)
    (case c14 => first | k_is | exact rfl | kernel_rfl | decide +kernel)
    (case k14 => first | k_is | exact rfl | kernel_rfl | decide +kernel)
    (case a15 => first | k_is | exact rfl | kernel_rfl | decide +kernel)
    (case l15 => first | k_is | exact rfl | kernel_rfl | decide +kernel)
    (case c15 => first | k_is | exact rfl | kernel_rfl | decide +kernel)
    (case k15 => first | k_is | exact rfl | kernel_rfl | decide +kernel)
    (case a16 => first | k_is | exact rfl | kernel_rfl | decide +kernel)
    (case l16 => first | k_is | exact rfl | kernel_rfl | decide +kernel)
    (case c16 => first | k_is | exact rfl | kernel_rfl | decide +kernel)
    (case k16 => first | k_is | exact rfl | kernel_rfl | decide +kernel)
    (case a17 => first | k_is | exact rfl | kernel_rfl | decide +kernel)
    (case l17 => first | k_is | exact rfl | kernel_rfl | decide +kernel)
    (case c17 => first | k_is | exact rfl | kernel_rfl | decide +kernel)
    (case k17 => first | k_is | exact rfl | kernel_rfl | decide +kernel)
    (case a18 => first | k_is | exact rfl | kernel_rfl | decide +kernel)
    (case l18 => first | k_is | exact rfl | kernel_rfl | decide +kernel)
    (case c18 => first | k_is | exact rfl | kernel_rfl | decide +kernel)
    (case k18 => first | k_is | exact rfl | kernel_rfl | decide +kernel)
    (case a19 => first | k_is | exact rfl | kernel_rfl | decide +kernel)
    (case l19 => first | k_is | exact rfl | kernel_rfl | decide +kernel)
    (case c19 => first | k_is | exact rfl | kernel_rfl | decide +kernel)
    (case k19 => first | k_is | exact rfl | kernel_rfl | decide +kernel)
    (case a20 => first | k_is | exact rfl | kernel_rfl | decide +kernel)
    (case l20 => first | k_is | exact rfl | kernel_rfl | decide +kernel)
    (case c20 => first | k_is | exact rfl | kernel_rfl | decide +kernel)
    (case k20 => first | k_is | exact rfl | kernel_rfl | decide +kernel)
    (case a21 => first | k_is | exact rfl | kernel_rfl | decide +kernel)
    (case l21 => first | k_is | exact rfl | kernel_rfl | decide +kernel)
    (case c21 => first | k_is | exact rfl | kernel_rfl | decide +kernel)
    (case k21 => first | k_is | exact rfl | kernel_rfl | decide +kernel)
    (case a22 => first | k_is | exact rfl | kernel_rfl | decide +kernel)
    (case l22 => first | k_is | exact rfl | kernel_rfl | decide +kernel)
    (case c22 => first | k_is | exact rfl | kernel_rfl | decide +kernel)
    (case k22 => first | k_is | exact rfl | kernel_rfl | decide +kernel)
    (case a23 => first | k_is | exact rfl | kernel_rfl | decide +kernel)
    (case l23 => first | k_is | exact rfl | kernel_rfl | decide +kernel)
    (case c23 => first | k_is | exact rfl | kernel_rfl | decide +kernel)
    (case k23 => first | k_is | exact rfl | kernel_rfl | decide +kernel)
    (case a24 => first | k_is | exact rfl | kernel_rfl | decide +kernel)
    (case l24 => first | k_is | exact rfl | kernel_rfl | decide +kernel)
    (case c24 => first | k_is | exact rfl | kernel_rfl | decide +kernel)
    (case k24 => first | k_is | exact rfl | kernel_rfl | decide +kernel)
    (case a25 => first | k_is | exact rfl | kernel_rfl | decide +kernel)
    (case l25 => first | k_is | exact rfl | kernel_rfl | decide +kernel)
    (case c25 => first | k_is | exact rfl | kernel_rfl | decide +kernel)
    (case k25 => first | k_is | exact rfl | kernel_rfl | decide +kernel)
    (case a26 => first | k_is | exact rfl | kernel_rfl | decide +kernel)
    (case l26 => first | k_is | exact rfl | kernel_rfl | decide +kernel)
    (case c26 => first | k_is | exact rfl | kernel_rfl | decide +kernel)
    (case k26 => first | k_is | exact rfl | kernel_rfl | decide +kernel)
    (case a27 => first | k_is | exact rfl | kernel_rfl | decide +kernel)
    (case l27 => first | k_is | exact rfl | kernel_rfl | decide +kernel)
    (case c27 => first | k_is | exact rfl | kernel_rfl | decide +kernel)
    (case k27 => first | k_is | exact rfl | kernel_rfl | decide +kernel)
    (case a28 => first | k_is | exact rfl | kernel_rfl | decide +kernel)
    (case l28 => first | k_is | exact rfl | kernel_rfl | decide +kernel)
    (case c28 => first | k_is | exact rfl | kernel_rfl | decide +kernel)
    (case k28 => first | k_is | exact rfl | kernel_rfl | decide +kernel)
    (case a29 => first | k_is | exact rfl | kernel_rfl | decide +kernel)
    (case l29 => first | k_is | exact rfl | kernel_rfl | decide +kernel)
    (case c29 => first | k_is | exact rfl | kernel_rfl | decide +kernel)
    (case k29 => first | k_is | exact rfl | kernel_rfl | decide +kernel)
    (case mC => first | k_is | exact rfl | kernel_rfl | decide +kernel)
    (case mCK => first | k_is | exact rfl | kernel_rfl | decide +kernel)
    (case mCS => first | k_is | exact rfl | kernel_rfl | decide +kernel)
    (case mCB => first | k_is | exact rfl | kernel_rfl | decide +kernel)
    (case mCKB => first | k_is | exact rfl | kernel_rfl | decide +kernel)
    (case mCM => first | k_is | exact rfl | kernel_rfl | decide +kernel)
    (case mCSB => first | k_is | exact rfl | kernel_rfl | decide +kernel)
    (case M0 => first | k_is | exact rfl | kernel_rfl | decide +kernel)
    (case L0 => first | k_is | exact rfl | kernel_rfl | decide +kernel)
    (case D0 => first | k_is | exact rfl | kernel_rfl | decide +kernel)
    (case N0 => first | k_is | exact rfl | kernel_rfl | decide +kernel)
    (case T0 => first | k_is | exact rfl | kernel_rfl | decide +kernel)
    (case M1 => first | k_is | exact rfl | kernel_rfl | decide +kernel)
    (case L1 => first | k_is | exact rfl | kernel_rfl | decide +kernel)
    (case D1 => first | k_is | exact rfl | kernel_rfl | decide +kernel)
    (case N1 => first | k_is | exact rfl | kernel_rfl | decide +kernel)
    (case T1 => first | k_is | exact rfl | kernel_rfl | decide +kernel)
    (case M2 => first | k_is | exact rfl | kernel_rfl | decide +kernel)
    (case L2 => first | k_is | exact rfl | kernel_rfl | decide +kernel)
    (case D2 => first | k_is | exact rfl | kernel_rfl | decide +kernel)
    (case N2 => first | k_is | exact rfl | kernel_rfl | decide +kernel)
    (case T2 => first | k_is | exact rfl | kernel_rfl | decide +kernel)
    (case M3 => first | k_is | exact rfl | kernel_rfl | decide +kernel)
    (case L3 => first | k_is | exact rfl | kernel_rfl | decide +kernel)
    (case D3 => first | k_is | exact rfl | kernel_rfl | decide +kernel)
    (case N3 => first | k_is | exact rfl | kernel_rfl | decide +kernel)
    (case T3 => first | k_is | exact rfl | kernel_rfl | decide +kernel)
    (case M4 => first | k_is | exact rfl | kernel_rfl | decide +kernel)
    (case L4 => first | k_is | exact rfl | kernel_rfl | decide +kernel)
    (case D4 => first | k_is | exact rfl | kernel_rfl | decide +kernel)
    (case N4 => first | k_is | exact rfl | kernel_rfl | decide +kernel)
    (case T4 => first | k_is | exact rfl | kernel_rfl | decide +kernel)
    (case M5 => first | k_is | exact rfl | kernel_rfl | decide +kernel)
    (case L5 => first | k_is | exact rfl | kernel_rfl | decide +kernel)
    (case D5 => first | k_is | exact rfl | kernel_rfl | decide +kernel)
    (case N5 => first | k_is | exact rfl | kernel_rfl | decide +kernel)
    (case T5 => first | k_is | exact rfl | kernel_rfl | decide +kernel)
    (case M6 => first | k_is | exact rfl | kernel_rfl | decide +kernel)
    (case L6 => first | k_is | exact rfl | kernel_rfl | decide +kernel)
    (case D6 => first | k_is | exact rfl | kernel_rfl | decide +kernel)
    (case N6 => first | k_is | exact rfl | kernel_rfl | decide +kernel)
    (case T6 => first | k_is | exact rfl | kernel_rfl | decide +kernel)
    (case M7 => first | k_is | exact rfl | kernel_rfl | decide +kernel)
    (case L7 => first | k_is | exact rfl | kernel_rfl | decide +kernel)
    (case D7 => first | k_is | exact rfl | kernel_rfl | decide +kernel)
    (case N7 => first | k_is | exact rfl | kernel_rfl | decide +kernel)
    (case T7 => first | k_is | exact rfl | kernel_rfl | decide +kernel)
    (case M8 => first | k_is | exact rfl | kernel_rfl | decide +kernel)
    (case L8 => first | k_is | exact rfl | kernel_rfl | decide +kernel)
    (case D8 => first | k_is | exact rfl | kernel_rfl | decide +kernel)
    (case N8 => first | k_is | exact rfl | kernel_rfl | decide +kernel)
    (case T8 => first | k_is | exact rfl | kernel_rfl | decide +kernel)
    (case M9 => first | k_is | exact rfl | kernel_rfl | decide +kernel)
    (case L9 => first | k_is | exact rfl | kernel_rfl | decide +kernel)
    (case D9 => first | k_is | exact rfl | kernel_rfl | decide +kernel)
    (case N9 => first | k_is | exact rfl | kernel_rfl | decide +kernel)
    (case T9 => first | k_is | exact rfl | kernel_rfl | decide +kernel)
    (case M10 => first | k_is | exact rfl | kernel_rfl | decide +kernel)
    (case L10 => first | k_is | exact rfl | kernel_rfl | decide +kernel)
    (case D10 => first | k_is | exact rfl | kernel_rfl | decide +kernel)
    (case N10 => first | k_is | exact rfl | kernel_rfl | decide +kernel)
    (case T10 => first | k_is | exact rfl | kernel_rfl | decide +kernel)
    (case M11 => first | k_is | exact rfl | kernel_rfl | decide +kernel)
    (case L11 => first | k_is | exact rfl | kernel_rfl | decide +kernel)
    (case D11 => first | k_is | exact rfl | kernel_rfl | decide +kernel)
    (case N11 => first | k_is | exact rfl | kernel_rfl | decide +kernel)
    (case T11 => first | k_is | exact rfl | kernel_rfl | decide +kernel)
    (case P0a => first | k_is | exact rfl | kernel_rfl | decide +kernel)
    (case P0b => first | k_is | exact rfl | kernel_rfl | decide +kernel)
    (case P0c => first | k_is | exact rfl | kernel_rfl | decide +kernel)
    (case P0d => first | k_is | exact rfl | kernel_rfl | decide +kernel)
    (case L12 => first | k_is | exact rfl | kernel_rfl | decide +kernel)
    (case D12 => first | k_is | exact rfl | kernel_rfl | decide +kernel)
    (case N12 => first | k_is | exact rfl | kernel_rfl | decide +kernel)
    (case P1a => first | k_is | exact rfl | kernel_rfl | decide +kernel)
    (case P1b => first | k_is | exact rfl | kernel_rfl | decide +kernel)
    (case P1c => first | k_is | exact rfl | kernel_rfl | decide +kernel)
    (case P1d => first | k_is | exact rfl | kernel_rfl | decide +kernel)
    (case L13 => first | k_is | exact rfl | kernel_rfl | decide +kernel)
    (case D13 => first | k_is | exact rfl | kernel_rfl | decide +kernel)
    (case N13 => first | k_is | exact rfl | kernel_rfl | decide +kernel)
    (case P2a => first | k_is | exact rfl | kernel_rfl | decide +kernel)
    (case P2b => first | k_is | exact rfl | kernel_rfl | decide +kernel)
    (case P2c => first | k_is | exact rfl | kernel_rfl | decide +kernel)
    (case P2d => first | k_is | exact rfl | kernel_rfl | decide +kernel)
    (case L14 => first | k_is | exact rfl | kernel_rfl | decide +kernel)
    (case D14 => first | k_is | exact rfl | kernel_rfl | decide +kernel)
    (case N14 => first | k_is | exact rfl | kernel_rfl | decide +kernel)
    (case M15 => first | k_is | exact rfl | kernel_rfl | decide +kernel)
    (case L15 => first | k_is | exact rfl | kernel_rfl | decide +kernel)
    (case D15 => first | k_is | exact rfl | kernel_rfl | decide +kernel)
    (case N15 => first | k_is | exact rfl | kernel_rfl | decide +kernel)
    (case T15 => first | k_is | exact rfl | kernel_rfl | decide +kernel)
    (case H1 => first | k_is | exact rfl | kernel_rfl | decide +kernel)
    (case H2 => first | k_is | exact rfl | kernel_rfl | decide +kernel)
    (case M16 => first | k_is | exact rfl | kernel_rfl | decide +kernel)
    (case L16 => first | k_is | exact rfl | kernel_rfl | decide +kernel)
    (case D16 => first | k_is | exact rfl | kernel_rfl | decide +kernel)
    (case N16 => first | k_is | exact rfl | kernel_rfl | decide +kernel)
    (case T16 => first | k_is | exact rfl | kernel_rfl | decide +kernel)
    (case H3 => first | k_is | exact rfl | kernel_rfl | decide +kernel)
    (case H4 => first | k_is | exact rfl | kernel_rfl | decide +kernel)
    (case u1C => first | k_is | exact rfl | kernel_rfl | decide +kernel)
    (case u2C => first | k_is | exact rfl | kernel_rfl | decide +kernel)
    (case u3C => first | k_is | exact rfl | kernel_rfl | decide +kernel)
    (case u4C => first | k_is | exact rfl | kernel_rfl | decide +kernel)
    (case u5C_kinds => first | k_is | exact rfl | kernel_rfl | decide +kernel)
    (case u5C_years => first | k_is | exact rfl | kernel_rfl | decide +kernel)
    (case u6C => first | k_is | exact rfl | kernel_rfl | decide +kernel)
    (case u7C => first | k_is | exact rfl | kernel_rfl | decide +kernel)
    (case u8C => first | k_is | exact rfl | kernel_rfl | decide +kernel)
    (case u9C => first | k_is | exact rfl | kernel_rfl | decide +kernel)
    (case uAC => first | k_is | exact rfl | kernel_rfl | decide +kernel)
    (case uCC => first | k_is | exact rfl | kernel_rfl | decide +kernel)
    (case wC_NoneType => first | exact rfl | kernel_rfl | decide +kernel)
    (case wC_list => first | exact rfl | kernel_rfl | decide +kernel)
    (case wC_str => first | exact rfl | kernel_rfl | decide +kernel)
    (case wC_tuple => first | exact rfl | kernel_rfl | decide +kernel)
    (case u1CK => first | k_is | exact rfl | kernel_rfl | decide +kernel)
    (case u2CK => first | k_is | exact rfl | kernel_rfl | decide +kernel)
    (case u3CK => first | k_is | exact rfl | kernel_rfl | decide +kernel)
    (case u4CK => first | k_is | exact rfl | kernel_rfl | decide +kernel)
    (case u5CK_rows => first | k_is | exact rfl | kernel_rfl | decide +kernel)
    (case u5CK_names => first | k_is | exact rfl | kernel_rfl | decide +kernel)
    (case u5CK__arities => first | k_is | exact rfl | kernel_rfl | decide +kernel)
    (case u6CK => first | k_is | exact rfl | kernel_rfl | decide +kernel)
    (case u7CK => first | k_is | exact rfl | kernel_rfl | decide +kernel)
    (case u8CK => first | k_is | exact rfl | kernel_rfl | decide +kernel)
    (case u9CK => first | k_is | exact rfl | kernel_rfl | decide +kernel)
    (case uACK => first | k_is | exact rfl | kernel_rfl | decide +kernel)
    (case uCCK => first | k_is | exact rfl | kernel_rfl | decide +kernel)
    (case wCK_NoneType => first | exact rfl | kernel_rfl | decide +kernel)
    (case wCK_list => first | exact rfl | kernel_rfl | decide +kernel)
    (case wCK_str => first | exact rfl | kernel_rfl | decide +kernel)
    (case wCK_tuple => first | exact rfl | kernel_rfl | decide +kernel)
    (case u1CS => first | k_is | exact rfl | kernel_rfl | decide +kernel)
    (case u2CS => first | k_is | exact rfl | kernel_rfl | decide +kernel)
    (case u3CS => first | k_is | exact rfl | kernel_rfl | decide +kernel)
    (case u4CS => first | k_is | exact rfl | kernel_rfl | decide +kernel)
    (case u5CS_room => first | k_is | exact rfl | kernel_rfl | decide +kernel)
    (case u5CS_seats => first | k_is | exact rfl | kernel_rfl | decide +kernel)
    (case u5CS_clocks => first | k_is | exact rfl | kernel_rfl | decide +kernel)
    (case u6CS => first | k_is | exact rfl | kernel_rfl | decide +kernel)
    (case u7CS => first | k_is | exact rfl | kernel_rfl | decide +kernel)
    (case u8CS => first | k_is | exact rfl | kernel_rfl | decide +kernel)
    (case u9CS => first | k_is | exact rfl | kernel_rfl | decide +kernel)
    (case uACS => first | k_is | exact rfl | kernel_rfl | decide +kernel)
    (case uCCS => first | k_is | exact rfl | kernel_rfl | decide +kernel)
    (case wCS_NoneType => first | exact rfl | kernel_rfl | decide +kernel)
    (case wCS_list => first | exact rfl | kernel_rfl | decide +kernel)
    (case wCS_str => first | exact rfl | kernel_rfl | decide +kernel)
    (case wCS_tuple => first | exact rfl | kernel_rfl | decide +kernel)
    (case wTC => first | exact rfl | kernel_rfl | decide +kernel)
    (case wTCS => first | exact rfl | kernel_rfl | decide +kernel)
    (case q1 => first | k_is | exact rfl | kernel_rfl | decide +kernel)
    (case q2 => first | k_is | exact rfl | kernel_rfl | decide +kernel)
    (case nCB_year => first | k_is | exact rfl | kernel_rfl | decide +kernel)
    (case nCB_index => first | k_is | exact rfl | kernel_rfl | decide +kernel)
    (case nCB_what => first | k_is | exact rfl | kernel_rfl | decide +kernel)
    (case nCKB_index => first | k_is | exact rfl | kernel_rfl | decide +kernel)
    (case nCKB_what => first | k_is | exact rfl | kernel_rfl | decide +kernel)
    (case nCM_what => first | k_is | exact rfl | kernel_rfl | decide +kernel)
    (case nCSB_what => first | k_is | exact rfl | kernel_rfl | decide +kernel)
    (case xCM => first | exact rfl | kernel_rfl | decide +kernel)
    (case y2 => first | k_is | exact rfl | kernel_rfl | decide +kernel)
    (case y3 => first | k_is | exact rfl | kernel_rfl | decide +kernel)
    (case y4 => first | k_is | exact rfl | kernel_rfl | decide +kernel)
    (case y5 => first | k_is | exact rfl | kernel_rfl | decide +kernel)
    (case y6 => first | k_is | exact rfl | kernel_rfl | decide +kernel)
    (case y7 => first | k_is | exact rfl | kernel_rfl | decide +kernel)
    (case y8 => first | k_is | exact rfl | kernel_rfl | decide +kernel)
    (case y9 => first | k_is | exact rfl | kernel_rfl | decide +kernel)
    (case yA => first | k_is | exact rfl | kernel_rfl | decide +kernel)
    (case o1CB => exact ⟨_, _, _, _, _, _, _, _, _, _, _, _, _, _, _, rfl, rfl⟩)
    (case o2CB => first | k_is | exact rfl | kernel_rfl | decide +kernel)
    (case o3CB => first | k_is | exact rfl | kernel_rfl | decide +kernel)
    (case o4CB => first | k_is | exact rfl | kernel_rfl | decide +kernel)
    (case o5CB => first | k_is | exact rfl | kernel_rfl | decide +kernel)
    (case o6CB => first | k_is | exact rfl | kernel_rfl | decide +kernel)
    (case o7CB => first | k_is | exact rfl | kernel_rfl | decide +kernel)
    (case o8CB => first | k_is | exact rfl | kernel_rfl | decide +kernel)
    (case o1CKB => exact ⟨_, _, _, _, _, _, _, _, _, _, _, _, _, _, _, rfl, rfl⟩)
    (case o2CKB => first | k_is | exact rfl | kernel_rfl | decide +kernel)
    (case o3CKB => first | k_is | exact rfl | kernel_rfl | decide +kernel)
    (case o4CKB => first | k_is | exact rfl | kernel_rfl | decide +kernel)
    (case o5CKB => first | k_is | exact rfl | kernel_rfl | decide +kernel)
    (case o6CKB => first | k_is | exact rfl | kernel_rfl | decide +kernel)
    (case o7CKB => first | k_is | exact rfl | kernel_rfl | decide +kernel)
    (case o8CKB => first | k_is | exact rfl | kernel_rfl | decide +kernel)
    (case o1CM => exact ⟨_, _, _, _, _, _, _, _, _, _, _, _, _, _, _, rfl, rfl⟩)
    (case o2CM => first | k_is | exact rfl | kernel_rfl | decide +kernel)
    (case o3CM => first | k_is | exact rfl | kernel_rfl | decide +kernel)
    (case o4CM => first | k_is | exact rfl | kernel_rfl | decide +kernel)
    (case o5CM => first | k_is | exact rfl | kernel_rfl | decide +kernel)
    (case o6CM => first | k_is | exact rfl | kernel_rfl | decide +kernel)
    (case o7CM => first | k_is | exact rfl | kernel_rfl | decide +kernel)
    (case o8CM => first | k_is | exact rfl | kernel_rfl | decide +kernel)
    (case o1CSB => exact ⟨_, _, _, _, _, _, _, _, _, _, _, _, _, _, _, rfl, rfl⟩)
    (case o2CSB => first | k_is | exact rfl | kernel_rfl | decide +kernel)
    (case o3CSB => first | k_is | exact rfl | kernel_rfl | decide +kernel)
    (case o4CSB => first | k_is | exact rfl | kernel_rfl | decide +kernel)
    (case o5CSB => first | k_is | exact rfl | kernel_rfl | decide +kernel)
    (case o6CSB => first | k_is | exact rfl | kernel_rfl | decide +kernel)
    (case o7CSB => first | k_is | exact rfl | kernel_rfl | decide +kernel)
    (case o8CSB => first | k_is | exact rfl | kernel_rfl | decide +kernel)
    (case z_int => first | k_is | exact rfl | kernel_rfl | decide +kernel)
    (case z_abs => first | k_is | exact rfl | kernel_rfl | decide +kernel)
    (case z_len => first | k_is | exact rfl | kernel_rfl | decide +kernel)
    (case z_enumerate => first | k_is | exact rfl | kernel_rfl | decide +kernel)
    (case z_range => first | k_is | exact rfl | kernel_rfl | decide +kernel)
    (case z_isinstance => first | k_is | exact rfl | kernel_rfl | decide +kernel)
    (case z_str => first | k_is | exact rfl | kernel_rfl | decide +kernel)
    (case z_bool => first | k_is | exact rfl | kernel_rfl | decide +kernel)
    (case z_list => first | k_is | exact rfl | kernel_rfl | decide +kernel)
    (case z_tuple => first | k_is | exact rfl | kernel_rfl | decide +kernel)
    (case z_sum => first | k_is | exact rfl | kernel_rfl | decide +kernel)
    (case z_repr => first | k_is | exact rfl | kernel_rfl | decide +kernel)
    (case z_dict => first | k_is | exact rfl | kernel_rfl | decide +kernel)
    (case z_set => first | k_is | exact rfl | kernel_rfl | decide +kernel)

